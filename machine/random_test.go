package machine

import (
	"math/rand"
	"reflect"
	"testing"

	"platformfw/allocate"
	"platformfw/api"
)

func randomEvent(r *rand.Rand) api.Event {
	e := api.Event{Kind: 1 + r.Intn(24), A: r.Intn(5), B: r.Intn(8), N: uint64(r.Intn(12)), Flag: r.Intn(2) == 0}
	switch r.Intn(12) {
	case 0:
		e.Kind = api.EvTick
	case 1, 2, 3, 4:
		e.Kind = api.EvContinue
	case 5:
		e.Kind = api.EvPowerOn
	}
	switch e.Kind {
	case api.EvRequest:
		e.S = []string{"go", "look", "start", "none"}[r.Intn(4)]
	case api.EvCall:
		e.S = []string{"\\RUN", "\\LOOP", "\\NONE"}[r.Intn(3)]
	case api.EvInsert, api.EvSlot:
		e.A = 2 + r.Intn(2)
	case api.EvPowerLoss, api.EvCut:
		if r.Intn(3) > 0 {
			e.Kind = api.EvTick
		}
		e.Keep = []bool{true, r.Intn(2) == 0}
	}
	return e
}

// P45.2 and the system guarantees W1, W5 and W6, for random scripts; replaying gives the same outcomes.
func TestRandomScripts(t *testing.T) {
	b := fullBoard(t)
	modes := map[int]int{}
	for seed := range int64(150) {
		r := rand.New(rand.NewSource(seed))
		m, _ := New(b)
		var script []api.Event
		var outcomes []api.Outcome
		for range 300 {
			e := randomEvent(r)
			out := m.Step(e)
			script, outcomes = append(script, e), append(outcomes, out)
			for _, x := range out.Drivers {
				if !x.Live {
					t.Fatal("W1", seed, e, x)
				}
			}
			s := m.Snapshot()
			modes[s.Mode]++
			if s.Temperatures[0] > b.Limit || s.Powers[0] > int64(b.Budget) {
				t.Fatal("W5", seed, s)
			}
			if len(out.Moves) > 0 && m.session != nil && !allocate.Check(m.functions, m.board.Host, m.assigned) {
				t.Fatal("W6", seed, e)
			}
		}
		code, e := Encode(script)
		again, e2 := Replay(b, code)
		if e != api.OK || e2 != api.OK || !reflect.DeepEqual(again, outcomes) {
			t.Fatal("W8", seed, e, e2)
		}
	}
	for mode := api.ModeOff; mode <= api.ModeAsleep; mode++ {
		if modes[mode] == 0 {
			t.Error("mode never reached", mode)
		}
	}
}

// bootUp presses the power button until the machine runs; planned power losses may need several attempts.
func (r *rig) bootUp() bool {
	for range 20 {
		if r.mode() != api.ModeOff {
			return true
		}
		r.Step(api.Event{Kind: api.EvPowerOn})
	}
	return false
}

// W4: whenever power is lost during hibernation, the next power-on resumes from the complete image or starts with empty memory.
func TestRandomHibernation(t *testing.T) {
	resumed, empty := 0, 0
	for seed := range int64(60) {
		random := rand.New(rand.NewSource(seed))
		r := newRig(t, fullBoard(t))
		for r.bootUp() && resumed+empty < 400 {
			for range 5 {
				r.Step(api.Event{Kind: api.EvWrite, B: random.Intn(512), N: uint64(random.Intn(256))})
			}
			r.Step(api.Event{Kind: api.EvUse, A: random.Intn(2)})
			r.Step(api.Event{Kind: api.EvTick, N: 20})
			saved := string(r.memory)
			uses := [2]int{r.Snapshot().Devices[0].Usage, r.Snapshot().Devices[1].Usage}
			keep := make([]bool, 20)
			for i := range keep {
				keep[i] = random.Intn(2) == 0
			}
			r.Step(api.Event{Kind: api.EvCut, A: 0, N: uint64(random.Intn(20)), Keep: keep})
			r.Step(api.Event{Kind: api.EvSleep, A: 4})
			r.steps()
			if r.mode() != api.ModeOff || !r.bootUp() {
				break
			}
			s := r.Snapshot()
			if s.Resumed {
				resumed++
				if string(r.memory) != saved || uses != [2]int{s.Devices[0].Usage, s.Devices[1].Usage} {
					t.Fatal("another state was resumed", seed)
				}
			} else {
				empty++
				if string(r.memory) != string(make([]byte, len(r.memory))) {
					t.Fatal("the memory is not empty", seed)
				}
			}
		}
	}
	if resumed == 0 || empty == 0 {
		t.Error(resumed, empty)
	}
}
