package rebase_test

import (
	"slices"
	"testing"

	"bezant/api"
)

// drawn tells numbers below n, by a fixed rule.
func drawn(state uint64) func(n int) int {
	return func(n int) int {
		state = state*6364136223846793005 + 1442695040888963407
		return int(state>>33) % n
	}
}

// pick tells one of these.
func pick[T any](draw func(n int) int, l ...T) T { return l[draw(len(l))] }

// drawAddr tells an address: of a segment's bytes, close to its ends, or anywhere.
func drawAddr(f api.Form, draw func(n int) int) uint64 {
	begin := uint64(1+draw(3)) * base
	return pick(draw, begin+uint64(draw(200)), begin+uint64(draw(200)), begin+uint64(draw(60)), begin-uint64(draw(9)), begin, uint64(draw(9)), top(f)-uint64(draw(20)))
}

// drawRels tells relocations, most of them relative.
func drawRels(f api.Form, draw func(n int) int, machine uint16) []api.Rel {
	var l []api.Rel
	for range draw(6) {
		kind := relative(machine)
		if draw(5) == 0 {
			kind = pick(draw, uint32(1), 7, 9, 1027, 8)
		}
		l = append(l, api.Rel{Off: drawAddr(f, draw), Sym: uint32(draw(300)), Type: kind})
	}
	return l
}

// drawEntries tells entries: those of relocations, at these addresses, and others, in any order.
func drawEntries(f api.Form, draw func(n int) int, with, n, without, k uint64) []api.Dyn {
	l := []api.Dyn{{Tag: 7, Val: with}, {Tag: 8, Val: n}, {Tag: 17, Val: without}, {Tag: 18, Val: k}}
	for range draw(6) {
		l = append(l, api.Dyn{Tag: pick(draw, addressTags()...) + uint64(draw(3)/2), Val: drawAddr(f, draw)})
	}
	for i := range l {
		j := draw(i + 1)
		l[i], l[j] = l[j], l[i]
	}
	if draw(6) == 0 {
		l[draw(len(l))].Tag = uint64(draw(20))
	}
	if draw(6) == 0 {
		l[draw(len(l))].Val += uint64(draw(5))
	}
	return append(l, api.Dyn{})
}

// drawModel tells a model that may be, of three loaded segments; relocations and entries stand among the bytes of some.
func drawModel(f api.Form, draw func(n int) int) api.Model {
	machine := pick(draw, uint16(3), 62, 62, 183, 40)
	parts := [3][]byte{fill(draw(30), draw(200)), fill(draw(30), draw(200)), fill(draw(30), draw(200))}
	lay := func(b []byte) (int, uint64) {
		i := draw(3)
		at := len(parts[i])
		parts[i] = slices.Concat(parts[i], b, fill(draw(4), 5))
		return i, uint64(at)
	}
	a, b := relBytes(f, true, drawRels(f, draw, machine)), relBytes(f, false, drawRels(f, draw, machine))
	i, with := lay(a)
	k, without := lay(b)
	e := dynBytes(f, drawEntries(f, draw, uint64(i+1)*base+with, uint64(len(a)), uint64(k+1)*base+without, uint64(len(b))))
	n, at := lay(e)
	m := plain(f)
	m.Machine, m.Entry = machine, uint64(draw(3))*base
	for i, b := range parts {
		m.Segs = append(m.Segs, load(uint64(i+1)*base, uint64(len(b)+draw(50)), b...))
	}
	s := api.Seg{Type: api.Dynamic, Vaddr: drawAddr(f, draw) / 2, Memsz: 8, Align: pick(draw, uint64(0), 1, 4, 8), At: in(n, at, uint64(len(e)))}
	if draw(8) == 0 {
		s.At = own(e...)
	}
	m.Segs = append(m.Segs, s)
	if draw(3) == 0 {
		other := pick(draw, api.Seg{Type: otherSeg, Vaddr: base, Memsz: 9, At: own(1, 2)}, api.Seg{Type: api.Dynamic, At: own(e...)}, load(base/2, 40, fill(20, 3)...))
		m.Segs = slices.Insert(m.Segs, 0, other)
		if at := &m.Segs[4].At; at.In >= 0 {
			at.In++
		}
	}
	m.Secs = []api.Sec{{Type: otherSec, Flags: uint64(draw(8)), Addr: drawAddr(f, draw) / 2, At: own()}}
	return m
}

// TestP19_1DrawnModels holds models of many words, drawn by a fixed rule, against the reference.
func TestP19_1DrawnModels(t *testing.T) {
	each(t, func(t *testing.T, f api.Form) {
		draw := drawn(19)
		several, meeting, set, both := 0, 0, 0, 0
		for range 3000 {
			m := drawModel(f, draw)
			for _, d := range []uint64{0, 8 * uint64(draw(9)), far(f)} {
				agree(t, m, d)
			}
			l := words(m, 16)
			if len(l) > 2 {
				several++
			}
			for i, a := range l {
				for _, b := range l[:i] {
					if a.seg == b.seg && a.at-b.at < width(f) && b.at-a.at < width(f) {
						meeting++
						if a.set {
							both++
						}
					}
				}
				if a.set {
					set++
				}
			}
		}
		if several < 1000 || meeting < 150 || set < 3000 || both < 50 {
			t.Error("too few words are moved:", several, meeting, set, both)
		}
	})
}

// TestP19_1SmallModels holds all pairs of Offs of a small model, with Add and without: its one segment has nothing but the words that are named, relocations, and entries.
func TestP19_1SmallModels(t *testing.T) {
	each(t, func(t *testing.T, f api.Form) {
		x := lay(f, nil, at(0), at(0))
		n := len(x.bytes())
		for i := -width(f); i < n+2; i++ {
			for k := -width(f); k < n+2; k++ {
				x := lay(f, nil, at(base+uint64(i)), at(base+uint64(k)))
				agree(t, x.Model, far(f))
			}
		}
	})
}
