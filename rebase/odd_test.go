package rebase_test

import (
	"math"
	"testing"

	"bezant/api"
	"bezant/model"
	"bezant/rebase"
)

// ends holds that calls end, and that they leave alone what they were handed, also of models that may not be.
func ends(t *testing.T, m api.Model) {
	t.Helper()
	was := clone(m)
	for _, d := range []uint64{0, 1, 16, 0x4560, 1 << 31, 1 << 32, 1 << 63, math.MaxUint64 - 0xfff, math.MaxUint64} {
		n, err := rebase.Rebase(m, d)
		if _, ok := err.(api.Code); err != nil && (!ok || !model.Same(n, api.Model{})) {
			t.Errorf("%v (%T), and %s", err, err, brief(n))
		}
		if !model.Same(m, was) {
			t.Errorf("what was handed in is changed: %s", brief(was))
		}
		if model.Check(m) == nil {
			agree(t, m, d)
		}
	}
}

// oddInts tells numbers for In and Str.
func oddInts(n int) []int {
	return []int{math.MinInt, math.MinInt32, -65536, -2, -1, 0, 1, n - 1, n, n + 1, 64, 65535, math.MaxInt32, math.MaxInt}
}

// oddNumbers tells numbers for addresses and sizes.
func oddNumbers(n int) []uint64 {
	v := uint64(n)
	return []uint64{0, 1, 2, v - 1, v, v + 1, base, base + v, base + v - 8, 1<<31 - 1, 1 << 31, math.MaxUint32 - 7, math.MaxUint32, math.MaxUint32 + 1, 1 << 63, math.MaxUint64 - 8, math.MaxUint64 - 7, math.MaxUint64 - 3, math.MaxUint64 - 1, math.MaxUint64}
}

// odd tells a model that may be, of all kinds of words, without an Align.
func odd(f api.Form) laid {
	x := lay(f, fill(40, 9), at(base, base+9, base+250), at(base+20), api.Dyn{Tag: 5, Val: base})
	x.Segs[1].Align = 0
	x.Segs = append(x.Segs, load(2*base, 30, fill(20, 3)...))
	x.Secs = []api.Sec{{Type: otherSec, Flags: 2, Addr: base, Size: 3, At: own(1, 2, 3)}}
	return x
}

// TestP1OddPlaces holds places of segments and of sections that may not be: in ones that there aren't, in themselves, in ones that aren't loaded, with fewer bytes than Size, or more.
func TestP1OddPlaces(t *testing.T) {
	each(t, func(t *testing.T, f api.Form) {
		x := odd(f)
		n := len(x.bytes())
		for i := range x.Segs {
			for _, in := range oddInts(len(x.Segs)) {
				for _, v := range append(oddNumbers(n), uint64(x.entries), uint64(n-x.entries)) {
					for _, b := range [][]byte{nil, {1}, x.bytes(), x.bytes()[x.entries:]} {
						m := clone(x.Model)
						m.Segs[i].At = api.Place{In: in, Off: v, Size: x.Segs[1].At.Size, Own: b}
						ends(t, m)
						m.Segs[i].At = api.Place{In: in, Off: x.Segs[1].At.Off, Size: v, Own: b}
						ends(t, m)
					}
				}
			}
		}
		for _, in := range oddInts(len(x.Segs)) {
			m := clone(x.Model)
			m.Secs[0].At, m.Str = api.Place{In: in, Off: math.MaxUint64, Size: 9, Own: []byte{1}}, in
			ends(t, m)
		}
	})
}

// TestP1OddPlaceOfDynamic holds entries in a segment that is no Load, each Type of it, and each one as its own.
func TestP1OddPlaceOfDynamic(t *testing.T) {
	each(t, func(t *testing.T, f api.Form) {
		x := odd(f)
		for _, kind := range []uint32{0, 1, 2, 3, otherSeg, math.MaxUint32} {
			for _, in := range []int{0, 1, 2} {
				m := clone(x.Model)
				m.Segs[0].Type, m.Segs[1].At.In = kind, in
				ends(t, m)
				m.Segs[1].At.Own = fill(500, 1)
				copy(m.Segs[1].At.Own[x.entries:], x.bytes()[x.entries:])
				ends(t, m)
				m.Segs[1].Type = api.Load
				ends(t, m)
			}
		}
	})
}

// TestP1OddAddresses holds segments anywhere, also ones that fall, lie over one another, and go on beyond the last address.
func TestP1OddAddresses(t *testing.T) {
	each(t, func(t *testing.T, f api.Form) {
		x := odd(f)
		l := oddNumbers(len(x.bytes()))
		for i := range x.Segs {
			for _, v := range l {
				for _, n := range l {
					m := clone(x.Model)
					m.Segs[i].Vaddr, m.Segs[i].Memsz = v, n
					ends(t, m)
					m.Segs[0].Vaddr, m.Segs[2].Vaddr = v, v
					ends(t, m)
					m.Entry, m.Secs[0].Addr, m.Segs[i].Paddr, m.Segs[i].Align = v, n, v, n
					ends(t, m)
				}
			}
		}
	})
}

// TestP1OddWords holds every word of a model at its edges: Offs, Tags, and Vals.
func TestP1OddWords(t *testing.T) {
	each(t, func(t *testing.T, f api.Form) {
		x := odd(f)
		n := len(x.bytes())
		for at := 40; at < n; at += width(f) {
			for _, v := range append(oddNumbers(n), 3, 5, 7, 8, 17, 18, base-1, base+8, 2*base+19) {
				m := laid{clone(x.Model), x.with, x.without, x.entries}
				m.set(at, v)
				ends(t, m.Model)
				// Bytes up to the last address, which wrap round behind it.
				m.Segs[0].Vaddr = top(f) - uint64(n) + 1
				ends(t, m.Model)
				m.Segs[0].Vaddr += 9
				ends(t, m.Model)
			}
		}
	})
}

// TestP1OddNumbers holds every number at its edges, all of them at once.
func TestP1OddNumbers(t *testing.T) {
	for _, f := range forms() {
		for _, v := range oddNumbers(3) {
			for _, i := range oddInts(3) {
				s := api.Seg{Type: uint32(v), Flags: uint32(v), Vaddr: v, Paddr: v, Memsz: v, Align: v, At: api.Place{In: i, Off: v, Size: v, Own: fill(50, 1)}}
				c := api.Sec{Name: uint32(v), Type: uint32(v), Flags: v, Addr: v, Size: v, Link: uint32(v), Info: uint32(v), Align: v, Entsize: v, At: s.At}
				for _, kind := range []uint32{api.Load, api.Dynamic, otherSeg} {
					r := s
					r.Type = kind
					m := api.Model{Ident: api.Ident{Form: f}, Type: 3, Machine: 62, Entry: v, Segs: []api.Seg{s, r, s}, Secs: []api.Sec{c, c}, Str: i}
					ends(t, m)
					for k := range m.Segs {
						m.Segs[k].Align = 0
					}
					ends(t, m)
					m.Segs = []api.Seg{{Type: api.Dynamic, At: api.Place{In: i, Size: v}}, r}
					ends(t, m)
				}
			}
		}
	}
}

// TestP1VeryMany holds models of more segments, sections, relocations and entries than there may be.
func TestP1VeryMany(t *testing.T) {
	each(t, func(t *testing.T, f api.Form) {
		var offs []uint64
		var more []api.Dyn
		for i := range 2000 {
			offs, more = append(offs, base+uint64(i)*7), append(more, api.Dyn{Tag: uint64(1 + i%30), Val: base + uint64(i)})
		}
		x := lay(f, fill(9000, 1), at(offs...), at(offs...), more...)
		agree(t, x.Model, 0x4560)
		ends(t, x.Model)
		for range 300 {
			x.Segs = append(x.Segs, load(base, 9, 1, 2, 3), api.Seg{Type: api.Dynamic, Align: 3, At: in(9, 9, 9)})
			x.Secs = append(x.Secs, api.Sec{Flags: 2, Addr: 9}, api.Sec{At: own(1)})
		}
		ends(t, x.Model)
		for i := range x.Segs {
			x.Segs[i].Align = 0
		}
		ends(t, x.Model)
	})
}

// TestP1Drawn holds models with several odd numbers at once, drawn by a fixed rule.
func TestP1Drawn(t *testing.T) {
	each(t, func(t *testing.T, f api.Form) {
		draw := drawn(1)
		for range 3000 {
			m := drawModel(f, draw)
			ints, numbers := oddInts(len(m.Segs)), oddNumbers(60)
			for range 1 + draw(4) {
				s := &m.Segs[draw(len(m.Segs))]
				i, v := pick(draw, ints...), pick(draw, numbers...)
				switch draw(9) {
				case 0:
					s.At.In = i
				case 1:
					s.At.Off = v
				case 2:
					s.At.Size = v
				case 3:
					s.At.Own = nil
				case 4:
					s.Type = uint32(draw(3))
				case 5:
					s.Vaddr = v
				case 6:
					s.Memsz = v
				case 7:
					s.At.Own = append(s.At.Own, fill(draw(40), 1)...)
				case 8:
					m.Machine, m.Str = uint16(v), i
				}
			}
			ends(t, m)
		}
	})
}
