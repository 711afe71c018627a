package machine

import (
	"reflect"
	"strings"
	"testing"

	"platformfw/api"
)

func sampleScript() []api.Event {
	return []api.Event{{Kind: api.EvPowerOn}, {Kind: api.EvWrite, A: 0, B: 300, N: 1<<64 - 1}, {Kind: api.EvRequest, A: 1, S: "go\x00\xff", Flag: true}, {Kind: api.EvCut, B: api.MaxField, N: 128, Keep: []bool{true, false, true}}, {Kind: api.EvTick, N: 127}}
}

// P45.9: valid scripts.
func TestValidScript(t *testing.T) {
	if !ValidScript(nil) || !ValidScript(sampleScript()) || !ValidScript(make1000(1000)) || ValidScript(make1000(1001)) {
		t.Error("scripts")
	}
	for i, e := range []api.Event{{}, {Kind: 25}, {Kind: -1}, {Kind: 1, A: -1}, {Kind: 1, A: api.MaxField + 1}, {Kind: 1, B: -1}, {Kind: 1, B: api.MaxField + 1}, {Kind: 1, S: strings.Repeat("x", 256)}, {Kind: 1, Keep: make([]bool, 65)}} {
		if s, e2 := Encode([]api.Event{e}); ValidScript([]api.Event{e}) || s != "" || e2 != api.ErrInvalid {
			t.Error(i, e2)
		}
	}
	if !ValidScript([]api.Event{{Kind: 24, A: api.MaxField, B: api.MaxField, N: 1<<64 - 1, S: strings.Repeat("x", 255), Keep: make([]bool, 64)}}) {
		t.Error("largest event")
	}
}

func make1000(n int) []api.Event {
	l := make([]api.Event, n)
	for i := range l {
		l[i].Kind = 1
	}
	return l
}

// P45.9: encoding and decoding.
func TestEncodeDecode(t *testing.T) {
	s, e := Encode([]api.Event{{Kind: 4, A: 1, B: 300, N: 128, S: "ab", Flag: true, Keep: []bool{true, false}}})
	if s != "\x01\x04\x01\xac\x02\x80\x01\x02ab\x01\x02\x01\x00" || e != api.OK {
		t.Errorf("%x", s)
	}
	for _, l := range [][]api.Event{nil, sampleScript(), make1000(1000)} {
		s, _ := Encode(l)
		back, e := Decode(s)
		if e != api.OK || len(back) != len(l) || len(l) > 0 && !reflect.DeepEqual(back, l) {
			t.Error(e)
		}
		for i := range min(len(s), 200) {
			if back, e := Decode(s[:i]); back != nil || e != api.ErrTruncated {
				t.Error(i, e)
			}
		}
		if _, e := Decode(s + "\x00"); e != api.ErrMalformed {
			t.Error(e)
		}
	}
}

// P45.9: what is no prefix of an encoding.
func TestMalformed(t *testing.T) {
	for s, want := range map[string]api.Errno{
		"\xe8": api.ErrTruncated, "\xe8\x07\x01": api.ErrTruncated, "\xe9\x07": api.ErrMalformed, "\xe8\x08": api.ErrMalformed, "\x80\x00": api.ErrMalformed, "\x80\x80": api.ErrMalformed, "\x01\x00": api.ErrMalformed, "\x01\x19": api.ErrMalformed, "\x01\x80": api.ErrMalformed, "\x01\x18": api.ErrTruncated,
		"\x01\x01\x80\x80\x40": api.ErrTruncated, "\x01\x01\x81\x80\x40": api.ErrMalformed, "\x01\x01\x80\x80\x80": api.ErrMalformed, "\x01\x01\x80\x80": api.ErrTruncated, "\x01\x01\x81\x80": api.ErrTruncated, "\x01\x01\x80\x80\x00": api.ErrMalformed,
		"\x01\x01\x00\x00\xff\xff\xff\xff\xff\xff\xff\xff\xff": api.ErrTruncated, "\x01\x01\x00\x00\xff\xff\xff\xff\xff\xff\xff\xff\xff\x01": api.ErrTruncated, "\x01\x01\x00\x00\xff\xff\xff\xff\xff\xff\xff\xff\xff\x02": api.ErrMalformed, "\x01\x01\x00\x00\xff\xff\xff\xff\xff\xff\xff\xff\xff\x81": api.ErrMalformed,
		"\x01\x01\x00\x00\x00\x80\x02": api.ErrMalformed, "\x01\x01\x00\x00\x00\xff\x01": api.ErrTruncated, "\x01\x01\x00\x00\x00\x01x\x02": api.ErrMalformed, "\x01\x01\x00\x00\x00\x00\x00\x41": api.ErrMalformed, "\x01\x01\x00\x00\x00\x00\x00\x40": api.ErrTruncated, "\x01\x01\x00\x00\x00\x00\x00\x01\x02": api.ErrMalformed, "\x01\x01\x00\x00\x00\x00\x81": api.ErrMalformed,
	} {
		if l, e := Decode(s); l != nil || e != want {
			t.Errorf("%x: %d, want %d", s, e, want)
		}
	}
}

// P45.8 and P45.9: running and replaying give the same outcomes.
func TestReplay(t *testing.T) {
	b := fullBoard(t)
	l := []api.Event{{Kind: api.EvPowerOn}, {Kind: api.EvUse, A: 1}, {Kind: api.EvRequest, A: 1, S: "go"}, {Kind: api.EvTick, N: 30}, {Kind: api.EvWrite, B: 7, N: 9}, {Kind: api.EvSleep, A: 4}, {Kind: api.EvContinue}, {Kind: api.EvRead, B: 7}}
	s, _ := Encode(l)
	out, e := Replay(b, s)
	if e != api.OK || len(out) != len(l) || !reflect.DeepEqual(out, Run(b, l)) || out[7].Err != api.ErrState || len(out[3].Drivers) != 1 {
		t.Error(e, out)
	}
	m, _ := New(b)
	for i, event := range l {
		if got := m.Step(event); !reflect.DeepEqual(got, out[i]) {
			t.Error(i)
		}
	}
	if _, e := Replay(b, s[:3]); e != api.ErrTruncated {
		t.Error(e)
	}
	if got := Run(b, nil); len(got) != 0 {
		t.Error(got)
	}
}
