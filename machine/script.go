package machine

import "platformfw/api"

const mostKeep = 64

// ValidScript reports whether a script is valid.
func ValidScript(l []api.Event) bool {
	if len(l) > api.MaxScript {
		return false
	}
	for _, e := range l {
		if e.Kind < api.EvTick || e.Kind > api.EvCut || e.A < 0 || e.A > api.MaxField || e.B < 0 || e.B > api.MaxField || len(e.S) > api.MaxString || len(e.Keep) > mostKeep {
			return false
		}
	}
	return true
}

// appendNumber appends a number in the shortest form of LEB128.
func appendNumber(b []byte, v uint64) []byte {
	for v >= 0x80 {
		b = append(b, byte(v)|0x80)
		v >>= 7
	}
	return append(b, byte(v))
}

func appendBool(b []byte, v bool) []byte {
	if v {
		return append(b, 1)
	}
	return append(b, 0)
}

// Encode returns the encoding of a script.
func Encode(l []api.Event) (string, api.Errno) {
	if !ValidScript(l) {
		return "", api.ErrInvalid
	}
	b := appendNumber(nil, uint64(len(l)))
	for _, e := range l {
		for _, v := range []uint64{uint64(e.Kind), uint64(e.A), uint64(e.B), e.N, uint64(len(e.S))} {
			b = appendNumber(b, v)
		}
		b = append(b, e.S...)
		b = appendBool(b, e.Flag)
		b = appendNumber(b, uint64(len(e.Keep)))
		for _, k := range e.Keep {
			b = appendBool(b, k)
		}
	}
	return string(b), api.OK
}

// reader decodes a script. After a fault its methods return zero values.
type reader struct {
	rest  string
	fault api.Errno
}

func (r *reader) fail(e api.Errno) {
	if r.fault == api.OK {
		r.fault = e
	}
}

// next removes the next byte.
func (r *reader) next() byte {
	if r.fault != api.OK {
		return 0
	}
	if r.rest == "" {
		r.fail(api.ErrTruncated)
		return 0
	}
	c := r.rest[0]
	r.rest = r.rest[1:]
	return c
}

// number decodes a number between two limits. A prefix that no permitted number has is malformed at once.
func (r *reader) number(least, most uint64) uint64 {
	v := uint64(0)
	for shift := 0; ; shift += 7 {
		c := r.next()
		if r.fault != api.OK {
			return 0
		}
		group := uint64(c & 0x7F)
		if shift >= 64 || group > most>>shift || shift > 0 && c == 0 {
			r.fail(api.ErrMalformed)
			return 0
		}
		v |= group << shift
		if c < 0x80 {
			break
		}
		// What follows is at least 1 in the next group.
		if shift+7 >= 64 || v > most || most-v < 1<<(shift+7) {
			r.fail(api.ErrMalformed)
			return 0
		}
	}
	if v < least || v > most {
		r.fail(api.ErrMalformed)
		return 0
	}
	return v
}

func (r *reader) flag() bool { return r.number(0, 1) == 1 }

func (r *reader) text() string {
	n := int(r.number(0, api.MaxString))
	if len(r.rest) < n {
		r.fail(api.ErrTruncated)
	}
	if r.fault != api.OK {
		return ""
	}
	s := r.rest[:n]
	r.rest = r.rest[n:]
	return s
}

func (r *reader) event() api.Event {
	var e api.Event
	e.Kind = int(r.number(api.EvTick, api.EvCut))
	e.A = int(r.number(0, api.MaxField))
	e.B = int(r.number(0, api.MaxField))
	e.N = r.number(0, 1<<64-1)
	e.S = r.text()
	e.Flag = r.flag()
	for range r.number(0, mostKeep) {
		e.Keep = append(e.Keep, r.flag())
	}
	return e
}

// Decode returns the script whose encoding is s.
func Decode(s string) ([]api.Event, api.Errno) {
	r := &reader{rest: s}
	var l []api.Event
	for range r.number(0, api.MaxScript) {
		l = append(l, r.event())
		if r.fault != api.OK {
			break
		}
	}
	if r.rest != "" {
		r.fail(api.ErrMalformed)
	}
	if r.fault != api.OK {
		return nil, r.fault
	}
	return l, api.OK
}

// Replay returns the outcomes of a script on a new machine.
func Replay(b api.Board, s string) ([]api.Outcome, api.Errno) {
	if !Valid(b) {
		return nil, api.ErrInvalid
	}
	l, e := Decode(s)
	if e != api.OK {
		return nil, e
	}
	return Run(b, l), api.OK
}
