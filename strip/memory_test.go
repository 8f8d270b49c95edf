package strip_test

import (
	"bytes"
	"slices"
	"sync"
	"testing"

	"bezant/api"
	"bezant/model"
	"bezant/strip"
)

// hold is what spoils memory.
const hold = 0xee

// spoil fills bytes, and the room behind them.
func spoil(b []byte) {
	b = b[:cap(b)]
	for i := range b {
		b[i] = hold
	}
}

// spoilAll fills all of a model, and the room behind its lists.
func spoilAll(m api.Model) {
	for _, s := range m.Segs {
		spoil(s.At.Own)
	}
	for _, s := range m.Secs {
		spoil(s.At.Own)
	}
	segs, secs := m.Segs[:cap(m.Segs)], m.Secs[:cap(m.Secs)]
	for i := range segs {
		segs[i] = api.Seg{Type: 99, Vaddr: 98, At: own(97)}
	}
	for i := range secs {
		secs[i] = api.Sec{Name: 96, Type: 95, At: own(94)}
	}
}

// overlaid tells a model all of whose bytes are one memory.
func overlaid(f api.Form) api.Model {
	b := fill(30, 9)
	b[20] = 0
	m := with(f, 3)
	for i := range 5 {
		m.Segs = append(m.Segs, api.Seg{Type: api.Load, Vaddr: uint64(50 * i), Memsz: 40, At: own(b...)})
		m.Secs = append(m.Secs, api.Sec{Name: uint32(i), Type: otherSec, Size: 30, Link: 3, At: own(b...)})
	}
	m.Secs[1].Type, m.Secs[2].Type = api.SymTab, api.StrTab
	return m
}

// held tells models that may be, new each time.
func held(f api.Form) []api.Model {
	m, _ := full(f)
	l := of(f, sec(api.SymTab, 3), sec(api.StrTab, 0), called(".debug", sec(otherSec, 0)), sec(otherSec, 2))
	return []api.Model{m, overlaid(f), l, {Ident: api.Ident{Form: f}, Segs: m.Segs}}
}

// TestP18_2NewMemory holds that no two answers share memory, nor do they with the model.
func TestP18_2NewMemory(t *testing.T) {
	each(t, func(t *testing.T, f api.Form) {
		for k := range held(f) {
			m, whole := held(f)[k], held(f)[k]
			want := without(whole, told(whole))
			a, b := strip.Strip(m), strip.Strip(m)
			spoilAll(a)
			if !model.Same(b, want) {
				t.Error("two answers share memory", brief(b))
			}
			if !model.Same(m, whole) {
				t.Error("what was handed in is spoilt", brief(m))
			}
			c := strip.Strip(m)
			spoilAll(m)
			if !model.Same(b, want) || !model.Same(c, want) {
				t.Error("what was told follows the model", brief(b))
			}
		}
	})
}

// TestP18_2GoesNewMemory holds the same of the list that Goes tells.
func TestP18_2GoesNewMemory(t *testing.T) {
	each(t, func(t *testing.T, f api.Form) {
		for k := range held(f) {
			m, want := held(f)[k], told(held(f)[k])
			a, b := strip.Goes(m), strip.Goes(m)
			for i := range a[:cap(a)] {
				a[:cap(a)][i] = true
			}
			if !slices.Equal(b, want) || !slices.Equal(strip.Goes(m), want) {
				t.Error("two answers share memory", shown(b))
			}
			if !model.Same(m, held(f)[k]) {
				t.Error("what was handed in is changed", brief(m))
			}
			spoilAll(m)
			if !slices.Equal(b, want) {
				t.Error("what was told follows the model", shown(b))
			}
		}
	})
}

// TestP18_2BytesAreApart holds that no two bytes of one answer share memory, nor the room behind them.
func TestP18_2BytesAreApart(t *testing.T) {
	each(t, func(t *testing.T, f api.Form) {
		m := overlaid(f)
		want := strip.Strip(m)
		for i := range m.Segs {
			n := strip.Strip(m)
			spoil(n.Segs[i].At.Own)
			n.Segs[i].At.Own = fill(30, 9)
			n.Segs[i].At.Own[20] = 0
			if !model.Same(n, want) {
				t.Error("something has memory of segment", i)
			}
			n = strip.Strip(m)
			spoil(n.Secs[i].At.Own)
			n.Secs[i].At.Own = bytes.Clone(want.Secs[i].At.Own)
			if !model.Same(n, want) {
				t.Error("something has memory of section", i)
			}
		}
	})
}

// TestP18_2NothingGoes holds that memory is new also where the model that is told is the one that was handed in.
func TestP18_2NothingGoes(t *testing.T) {
	each(t, func(t *testing.T, f api.Form) {
		m := of(f, sec(otherSec, 0), loaded(sec(api.SymTab, 2)))
		m.Segs = []api.Seg{{Type: api.Load, Memsz: 4, At: own(1, 2, 3)}, {Type: otherSeg, At: own(4)}}
		was := clone(m)
		goes(t, m, "...")
		spoilAll(strip.Strip(m))
		if !model.Same(m, was) {
			t.Error("what was handed in is spoilt", brief(m))
		}
	})
}

// TestP18_2RoomBehind holds that what is behind a list's or bytes' end, in one memory with it, is neither changed nor looked at.
func TestP18_2RoomBehind(t *testing.T) {
	each(t, func(t *testing.T, f api.Form) {
		whole := of(f, sec(api.StrTab, 0), sec(api.SymTab, 2), sec(otherSec, 2), called(".debug", sec(otherSec, 0)))
		whole.Segs = []api.Seg{{Type: api.Load, Memsz: 4, At: own(1, 2, 3)}, {Type: api.Load, Vaddr: 9, Memsz: 4, At: own(4)}}
		m := clone(whole)
		// The section that keeps number 2 is behind the list's end.
		m.Secs, m.Segs = m.Secs[:3], m.Segs[:1]
		goes(t, m, ".xx")
		spoilAll(strip.Strip(clone(m)))
		strip.Strip(m)
		m.Secs, m.Segs = m.Secs[:5], m.Segs[:2]
		if !model.Same(m, whole) {
			t.Error("room behind lists is changed", brief(m))
		}
		goes(t, m, "..x.x")
		// A name that goes on behind its table's end is none there; the model may not be.
		room := []byte("\x00.debug\x00")
		m = with(f, 1, names("\x00"), sec(otherSec, 0))
		m.Secs[0].At.Own = room[:1]
		goes(t, m, "..")
		m.Secs[0].At, m.Secs[0].Size, m.Secs[1].Name = own(room[:4]...), 4, 1
		strip.Strip(m)
		m.Secs[0].At.Own = room[:7:8]
		strip.Strip(m)
		if string(room) != "\x00.debug\x00" {
			t.Error("room behind bytes is changed", room)
		}
		// A byte less, and the name is another one.
		room = []byte("\x00.debu\x00g\x00")
		m = with(f, 1, names(""), sec(otherSec, 0))
		m.Secs[0].At, m.Secs[0].Size, m.Secs[1].Name = api.Place{In: -1, Size: 7, Own: room[:7]}, 7, 1
		goes(t, m, "..")
	})
}

// TestR2NothingIsKept holds that an answer hangs on what was handed in alone, whatever was ahead, and stays as it was told.
func TestR2NothingIsKept(t *testing.T) {
	var answers, want []api.Model
	for range 3 {
		for _, f := range forms() {
			for k, m := range held(f) {
				goes(t, m, shown(told(held(f)[k])))
				answers, want = append(answers, strip.Strip(m)), append(want, without(m, told(m)))
				m.Str = -1
				strip.Goes(m)
				strip.Strip(m)
			}
		}
	}
	for i, n := range answers {
		if !model.Same(n, want[i]) {
			t.Error("what was told has changed", i)
		}
	}
}

// TestR2AtOnce holds that calls that run at the same time have nothing to do with one another.
func TestR2AtOnce(t *testing.T) {
	var wait sync.WaitGroup
	for _, f := range forms() {
		for _, m := range held(f) {
			want := told(m)
			for range 2 {
				wait.Go(func() {
					for range 30 {
						if l := strip.Goes(m); !slices.Equal(l, want) {
							t.Error(shown(l), shown(want))
						}
						if n := strip.Strip(m); !model.Same(n, without(m, want)) {
							t.Error(brief(n))
						}
					}
				})
			}
		}
	}
	wait.Wait()
}
