package hibernate

import (
	"reflect"
	"slices"
	"strings"
	"testing"

	"platformfw/api"
	"platformfw/blockdev"
	"platformfw/image"
)

var board = api.Digest{5}

func sample(c string) api.Image {
	return api.Image{Board: board, Generation: 3, Pages: []api.Page{{Number: 1, Data: strings.Repeat(c, 256)}, {Number: 4, Data: strings.Repeat("q", 256)}}}
}

func disk(t *testing.T, n int) *blockdev.Disk {
	t.Helper()
	d, e := blockdev.New(n)
	if e != api.OK {
		t.Fatal(e)
	}
	return d
}

func expect(t *testing.T, what string, got, want any) {
	t.Helper()
	if got != want {
		t.Errorf("%s: got %v, want %v", what, got, want)
	}
}

// P35.1: selection of pages.
func TestSelect(t *testing.T) {
	l := []api.PageInfo{{}, {Used: true}, {Used: true, NoSave: true}, {Used: true, Zero: true}, {Zero: true}, {Used: true}}
	if got := Select(l); !slices.Equal(got, []int{1, 5}) || Select(nil) != nil {
		t.Error(got)
	}
}

// P35.2 to P35.4: saving, loading and discarding.
func TestSaveLoad(t *testing.T) {
	d := disk(t, 8)
	_, e := Load(d, board)
	expect(t, "empty disk", e, api.ErrNotFound)
	expect(t, "save", Save(d, sample("a")), api.OK)
	expect(t, "pending", d.Pending(), 0)
	_, e = Load(d, api.Digest{6})
	expect(t, "other board", e, api.ErrVersion)
	i, e := Load(d, board)
	if !reflect.DeepEqual(i, sample("a")) || e != api.OK {
		t.Error(i, e)
	}
	i, e = Load(d, board)
	if !reflect.DeepEqual(i, api.Image{}) || e != api.ErrNotFound {
		t.Error("loaded twice", e)
	}
	Save(d, sample("a"))
	before := d.Contents()
	expect(t, "invalid image", Save(d, api.Image{Pages: []api.Page{{}}}), api.ErrInvalid)
	sectors, _ := image.Encode(sample("a"))
	small := disk(t, len(sectors)-1)
	expect(t, "small disk", Save(small, sample("a")), api.ErrFull)
	expect(t, "fitting disk", Save(disk(t, len(sectors)), sample("a")), api.OK)
	if !slices.Equal(before, d.Contents()) {
		t.Error("a refused image changes the disk")
	}
	d.Write(1, strings.Repeat("x", 64))
	_, e = Load(d, board)
	expect(t, "damaged", e, api.ErrChecksum)
	expect(t, "discard", Discard(d), api.OK)
	expect(t, "discarded", d.Contents()[0], strings.Repeat("\x00", 64))
	d.PowerOff(nil)
	_, e = Load(d, board)
	expect(t, "down", e, api.ErrDown)
	expect(t, "down", Save(d, sample("a")), api.ErrDown)
	expect(t, "down", Discard(d), api.ErrDown)
	expect(t, "invalid first", Save(d, api.Image{Pages: []api.Page{{}}}), api.ErrInvalid)
}

// P35.3 and P35.4: a power loss at any write, with any surviving writes.
func TestPowerLoss(t *testing.T) {
	sectors, _ := image.Encode(sample("a"))
	for writes := range len(sectors) + 2 {
		for mask := range 1 << (len(sectors) + 1) {
			d := disk(t, 8)
			Save(d, sample("b"))
			keep := make([]bool, len(sectors)+1)
			for i := range keep {
				keep[i] = mask>>i&1 != 0
			}
			d.CutAfter(writes, keep)
			e := Save(d, sample("a"))
			if (e == api.OK) != (writes > len(sectors)) || e != api.OK && e != api.ErrDown {
				t.Fatal(writes, e)
			}
			d.PowerOff(nil)
			d.PowerOn()
			i, e := Load(d, board)
			old := e == api.OK && reflect.DeepEqual(i, sample("b"))
			now := e == api.OK && reflect.DeepEqual(i, sample("a"))
			if !old && !now && e != api.ErrNotFound || now != (writes > len(sectors)) {
				t.Fatal(writes, mask, e)
			}
		}
	}
	d := disk(t, 8)
	Save(d, sample("a"))
	d.CutAfter(0, nil)
	i, e := Load(d, board)
	if e != api.ErrDown || i.Pages != nil {
		t.Error(e)
	}
	d.PowerOn()
	if _, e := Load(d, board); e != api.OK {
		t.Error(e)
	}
}

func freezer(t *testing.T, n int) *Freezer {
	t.Helper()
	f, e := NewFreezer(n)
	if e != api.OK {
		t.Fatal(e)
	}
	return f
}

// P35.5: wrong arguments.
func TestFreezerErrors(t *testing.T) {
	for _, n := range []int{-1, 65} {
		if f, e := NewFreezer(n); f != nil || e != api.ErrInvalid {
			t.Error(n, e)
		}
	}
	f := freezer(t, 64)
	expect(t, "enter", f.Enter(63, 30, 10), api.OK)
	expect(t, "process", f.Enter(64, 30, 10), api.ErrInvalid)
	expect(t, "process", f.Enter(-1, 30, 10), api.ErrInvalid)
	expect(t, "until", f.Enter(0, 11, 12), api.ErrInvalid)
	expect(t, "until", f.Enter(0, api.MaxTime+1, 12), api.ErrInvalid)
	expect(t, "deadline", f.Freeze(12, 11), api.ErrInvalid)
	expect(t, "deadline", f.Freeze(12, api.MaxTime+1), api.ErrInvalid)
	for _, now := range []uint64{9, api.MaxTime + 1} {
		_, e := f.Advance(now)
		if f.Enter(0, now, now) != api.ErrInvalid || f.Freeze(now, now) != api.ErrInvalid || f.Thaw(now) != api.ErrInvalid || e != api.ErrInvalid {
			t.Error(now)
		}
	}
	expect(t, "thaw", f.Thaw(50), api.ErrState)
	expect(t, "a failed call does not set the clock", f.Enter(0, 30, 10), api.OK)
	f.Freeze(11, 99)
	expect(t, "freezing", f.Enter(0, 30, 12), api.ErrState)
	expect(t, "freezing", f.Freeze(12, 30), api.ErrState)
	expect(t, "invalid first", f.Enter(0, 1, 12), api.ErrInvalid)
}

// P35.6 to P35.8: freezing and thawing.
func TestFreezer(t *testing.T) {
	f := freezer(t, 2)
	f.Enter(1, 40, 1)
	f.Enter(1, 5, 2)
	f.Enter(0, 20, 5)
	f.Enter(0, 10, 5)
	f.Thaw(5)
	g := *f
	expect(t, "freeze", f.Freeze(10, 30), api.OK)
	expect(t, "frozen", f.Frozen(0) || f.Frozen(1) || f.Frozen(2) || f.Frozen(-1), false)
	ok, e := f.Advance(20)
	expect(t, "not yet", !ok && e == api.OK && f.Frozen(0) && !f.Frozen(1), true)
	ok, e = f.Advance(30)
	expect(t, "timeout", ok, false)
	expect(t, "timeout", e, api.ErrTimeout)
	expect(t, "the clock is set", f.Thaw(29), api.ErrInvalid)
	expect(t, "running again", f.Frozen(0), false)
	expect(t, "running again", f.Thaw(30), api.ErrState)
	expect(t, "freeze", g.Freeze(10, 40), api.OK)
	ok, e = g.Advance(60)
	expect(t, "ended at the deadline", ok && e == api.OK && g.Frozen(1), true)
	ok, _ = g.Advance(61)
	expect(t, "still frozen", ok, true)
	expect(t, "frozen", g.Enter(0, 70, 61), api.ErrState)
	expect(t, "thaw", g.Thaw(62), api.OK)
	ok, _ = g.Advance(62)
	expect(t, "running", ok || g.Frozen(0), false)
	expect(t, "at once", g.Freeze(63, 63), api.OK)
	expect(t, "frozen at once", g.Frozen(0), true)
	expect(t, "thaw", g.Thaw(63), api.OK)
	g.Enter(0, 90, 63)
	expect(t, "timeout at once", g.Freeze(64, 64), api.ErrTimeout)
	expect(t, "running", g.Enter(0, 90, 64), api.OK)
	expect(t, "freeze", g.Freeze(64, 80), api.OK)
	expect(t, "thaw while freezing", g.Thaw(65), api.OK)
	empty := freezer(t, 0)
	expect(t, "no processes", empty.Freeze(0, 0), api.OK)
	ok, _ = empty.Advance(0)
	expect(t, "frozen", ok, true)
}
