package rebase_test

import (
	"bytes"
	"sync"
	"testing"

	"bezant/api"
	"bezant/model"
	"bezant/rebase"
)

// hold is what spoils memory.
const hold = 0xee

// spoil fills bytes, and the room behind them.
func spoil(b []byte) {
	b = b[:cap(b)]
	for i := range b {
		b[i] = hold
	}
}

// spoilAll fills all of a model, and the room behind its lists.
func spoilAll(m api.Model) {
	for _, s := range m.Segs {
		spoil(s.At.Own)
	}
	for _, s := range m.Secs {
		spoil(s.At.Own)
	}
	segs, secs := m.Segs[:cap(m.Segs)], m.Secs[:cap(m.Secs)]
	for i := range segs {
		segs[i] = api.Seg{Type: 99, Vaddr: 98, At: own(97)}
	}
	for i := range secs {
		secs[i] = api.Sec{Name: 96, Type: 95, At: own(94)}
	}
}

// overlaid tells a model all of whose bytes are one memory.
func overlaid(f api.Form) api.Model {
	x := lay(f, fill(40, 9), at(base+1, 2*base+3), at(3*base+20), api.Dyn{Tag: 5, Val: 2 * base})
	m, b := x.Model, x.bytes()
	n := uint64(len(b))
	m.Segs = append(m.Segs, load(2*base, n, b...), load(3*base, n+9, b...), api.Seg{Type: otherSeg, At: own(b...)}, api.Seg{Type: api.Dynamic, At: own(b...)})
	for i := range m.Segs {
		if m.Segs[i].At.In == -1 {
			m.Segs[i].At.Own = b
		}
	}
	for i := range 3 {
		m.Secs = append(m.Secs, api.Sec{Type: otherSec, Flags: uint64(i), Addr: base, Size: n, At: api.Place{In: -1, Size: n, Own: b}})
	}
	return m
}

// held tells models that may be, new each time.
func held(f api.Form) []api.Model {
	x := lay(f, fill(40, 9), at(base+1), at(base+20), api.Dyn{Tag: 5, Val: base})
	return []api.Model{full(f), overlaid(f), x.Model, plain(f, load(1, 4, 1, 2, 3), api.Seg{Type: otherSeg, At: own(4)}), plain(f)}
}

// moved tells a model that is moved.
func moved(t *testing.T, m api.Model, d uint64) api.Model {
	t.Helper()
	n, err := rebase.Rebase(m, d)
	if err != nil {
		t.Fatal(err)
	}
	return n
}

// TestP19_2NewMemory holds that no two answers share memory, nor do they with the model; so also where it is moved by nothing.
func TestP19_2NewMemory(t *testing.T) {
	each(t, func(t *testing.T, f api.Form) {
		for k := range held(f) {
			for _, d := range []uint64{0, 0x4560} {
				m, whole := held(f)[k], held(f)[k]
				want := told(whole, d)
				a, b := moved(t, m, d), moved(t, m, d)
				spoilAll(a)
				if !model.Same(b, want) {
					t.Error("two answers share memory", brief(b))
				}
				if !model.Same(m, whole) {
					t.Error("what was handed in is spoilt", brief(m))
				}
				c := moved(t, m, d)
				spoilAll(m)
				if !model.Same(b, want) || !model.Same(c, want) {
					t.Error("what was told follows the model", brief(b))
				}
			}
		}
	})
}

// TestP19_2BytesAreApart holds that no two bytes of one answer share memory, nor the room behind them, and that words are moved in one of them alone.
func TestP19_2BytesAreApart(t *testing.T) {
	each(t, func(t *testing.T, f api.Form) {
		m := overlaid(f)
		want := told(m, 0x4560)
		is(t, m, 0x4560, want)
		for i := range m.Segs {
			n := moved(t, m, 0x4560)
			spoil(n.Segs[i].At.Own)
			n.Segs[i].At.Own = want.Segs[i].At.Own
			if !model.Same(n, want) {
				t.Error("something has memory of segment", i)
			}
		}
		for i := range m.Secs {
			n := moved(t, m, 0x4560)
			spoil(n.Secs[i].At.Own)
			n.Secs[i].At.Own = want.Secs[i].At.Own
			if !model.Same(n, want) {
				t.Error("something has memory of section", i)
			}
		}
	})
}

// TestP19_2RoomBehind holds that what is behind a list's or bytes' end, in one memory with it, is neither changed nor looked at.
func TestP19_2RoomBehind(t *testing.T) {
	each(t, func(t *testing.T, f api.Form) {
		x := lay(f, fill(40, 9), at(base+1), at(base+20), api.Dyn{Tag: 5, Val: base})
		m := x.Model
		m.Segs = append(m.Segs, load(2*base, 9, 1), api.Seg{Type: otherSeg, Vaddr: top(f), At: own()})
		m.Secs = []api.Sec{{Type: otherSec, At: own()}, {Type: otherSec, Flags: 2, Addr: top(f), At: own()}}
		refuses(t, m, 16, api.ErrWrap)
		was := clone(m)
		m.Segs, m.Secs = m.Segs[:3], m.Secs[:1]
		moves(t, m, x.and(1, 20, x.val(4))...)
		spoilAll(moved(t, m, 0x4560))
		m.Segs, m.Secs = m.Segs[:4], m.Secs[:2]
		if !model.Same(m, was) {
			t.Error("room behind lists is changed", brief(m))
		}
		// A segment of Type Dynamic behind the list's end tells nothing.
		m.Segs, m.Secs = m.Segs[:1], nil
		moves(t, m)
		// Words, relocations and entries that go on behind the end of the bytes.
		for n := range len(x.bytes()) + 1 {
			room := bytes.Clone(x.bytes())
			whole := bytes.Clone(room)
			m := x.Model
			m.Segs = []api.Seg{x.Segs[0], x.Segs[1]}
			m.Segs[0].At = api.Place{In: -1, Size: uint64(n), Own: room[:n]}
			e := room[x.entries:]
			m.Segs[1].At = own(bytes.Clone(e)...)
			agree(t, m, 0x4560)
			agree(t, m, far(f))
			m.Segs[1].At = api.Place{In: -1, Size: uint64(min(n, len(e))), Own: e[:min(n, len(e))]}
			agree(t, m, far(f))
			if !bytes.Equal(room, whole) {
				t.Fatal("room behind bytes is changed", n)
			}
		}
	})
}

// TestP19_2NothingIsChanged holds that a model is as it was, also where an error is told.
func TestP19_2NothingIsChanged(t *testing.T) {
	each(t, func(t *testing.T, f api.Form) {
		for k, m := range held(f) {
			for _, d := range []uint64{0, 1, 16, 0x4560, far(f), top(f) - 15, top(f)} {
				rebase.Rebase(m, d)
				m.Type = 2
				rebase.Rebase(m, d)
				m.Type = 3
				if !model.Same(m, held(f)[k]) {
					t.Error("what was handed in is changed", brief(m))
				}
			}
		}
	})
}

// TestR2NothingIsKept holds that an answer hangs on what was handed in alone, whatever was ahead, and stays as it was told.
func TestR2NothingIsKept(t *testing.T) {
	var answers, want []api.Model
	for range 3 {
		for _, f := range forms() {
			for k, m := range held(f) {
				for _, d := range []uint64{0, 0x4560, far(f)} {
					answers, want = append(answers, moved(t, m, d)), append(want, told(held(f)[k], d))
				}
				m.Type = 9
				rebase.Rebase(m, 16)
			}
		}
	}
	for i, n := range answers {
		if !model.Same(n, want[i]) {
			t.Error("what was told has changed", i)
		}
	}
}

// TestR2AtOnce holds that calls that run at the same time have nothing to do with one another.
func TestR2AtOnce(t *testing.T) {
	var wait sync.WaitGroup
	for _, f := range forms() {
		for _, m := range held(f) {
			want := told(m, far(f))
			for range 2 {
				wait.Go(func() {
					for range 30 {
						if n, err := rebase.Rebase(m, far(f)); err != nil || !model.Same(n, want) {
							t.Error(err, brief(n))
						}
					}
				})
			}
		}
	}
	wait.Wait()
}
