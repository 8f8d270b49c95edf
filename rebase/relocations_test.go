package rebase_test

import (
	"math"
	"slices"
	"testing"

	"bezant/api"
)

// and tells these words, and those of the entries that tell of relocations.
func (x laid) and(words ...int) []int { return append(words, x.tables()...) }

func TestP19_1Relocations(t *testing.T) {
	each(t, func(t *testing.T, f api.Form) {
		data := fill(40, 200)
		x := lay(f, data, at(base, base+17), nil)
		moves(t, x.Model, x.and(0, 17)...)
		x = lay(f, data, nil, at(base+3, base+30))
		moves(t, x.Model, x.and(3, 30)...)
		x = lay(f, data, at(base+8), at(base+16, base+24))
		moves(t, x.Model, x.and(8, 16, 24)...)
		x = lay(f, data, nil, nil)
		moves(t, x.Model, x.and()...)
		// Each of some in a long list, in falling order.
		var l []api.Rel
		var want []int
		for i := range 50 {
			v := 400 - 8*(i+1)
			l, want = append(l, api.Rel{Off: base + uint64(v), Type: uint32(8 - i%2), Sym: 1 << 20, Add: -5}), append(want, v)
			if i%2 == 1 {
				want = want[:len(want)-1]
			}
		}
		x = lay(f, fill(400, 1), l, nil)
		moves(t, x.Model, x.and(want...)...)
		for i := range l {
			l[i].Add = 0
		}
		x = lay(f, fill(400, 1), nil, l)
		moves(t, x.Model, x.and(want...)...)
	})
}

// TestP19_1Kinds holds Types of relocations, and Machines.
func TestP19_1Kinds(t *testing.T) {
	kinds := []uint32{0, 1, 2, 3, 4, 5, 6, 7, 8, 9, 10, 24, 37, 38, 72, 136, 254, 255, 256, 257, 264, 1024, 1025, 1026, 1027, 1028, 1032, 1 << 16, 1<<16 + 8, 1<<24 + 8, 1<<24 + 1027, 1<<31 + 8, 1<<31 + 1027, math.MaxUint32}
	machines := []uint16{0, 1, 2, 3, 4, 8, 20, 21, 22, 40, 42, 43, 50, 61, 62, 63, 182, 183, 184, 243, 258, 259, 318, 439, 1027, 3 << 8, 62 << 8, 183 << 8, 0x8003, 0x803e, 0x80b7, 0xffff}
	each(t, func(t *testing.T, f api.Form) {
		for _, kind := range kinds {
			if !f.Wide && kind > 255 {
				continue
			}
			for _, adds := range []bool{true, false} {
				l := []api.Rel{{Off: base + 8, Type: kind}, {Off: base + 24, Type: kind, Sym: 0x803}}
				x := lay(f, fill(40, 9), l, nil)
				if !adds {
					x = lay(f, fill(40, 9), nil, l)
				}
				for _, machine := range machines {
					x.Machine = machine
					if kind == 8 && (machine == 3 || machine == 62) || kind == 1027 && machine == 183 {
						moves(t, x.Model, x.and(8, 24)...)
					} else {
						moves(t, x.Model, x.and()...)
					}
				}
			}
		}
	})
}

// TestP19_1SymHasNoSay holds that Sym and Add of a relative relocation have no say.
func TestP19_1SymHasNoSay(t *testing.T) {
	each(t, func(t *testing.T, f api.Form) {
		for _, v := range []uint32{0, 1, 8, 255, 256, 1<<24 - 1} {
			for _, add := range []int64{0, 1, -1, 4096, math.MaxInt32, math.MinInt32} {
				x := lay(f, fill(40, 9), []api.Rel{{Off: base + 9, Sym: v, Type: 8, Add: add}}, []api.Rel{{Off: base + 20, Sym: v, Type: 8}})
				moves(t, x.Model, x.and(9, 20)...)
			}
		}
	})
}

// TestP19_1OneOfAPair holds models in which one entry of a pair isn't there.
func TestP19_1OneOfAPair(t *testing.T) {
	each(t, func(t *testing.T, f api.Form) {
		for missing := range 16 {
			x := lay(f, fill(40, 9), at(base+1), at(base+20))
			var want []int
			for i := range 4 {
				if missing>>i&1 == 1 {
					// A Tag that is neither such a one nor an address's.
					x.set(x.tag(i), 0x6000+uint64(i))
				} else if i%2 == 0 {
					want = append(want, x.val(i))
				}
			}
			if missing&3 == 0 {
				want = append(want, 1)
			}
			if missing&12 == 0 {
				want = append(want, 20)
			}
			moves(t, x.Model, want...)
		}
		// The size of the others is no size of these.
		x := lay(f, fill(40, 9), at(base+1), at(base+20))
		x.set(x.tag(1), 18)
		x.set(x.tag(2), 8000)
		moves(t, x.Model, x.val(0))
	})
}

// TestP19_1TagsTwice holds that of each Tag the first entry alone tells of relocations.
func TestP19_1TagsTwice(t *testing.T) {
	each(t, func(t *testing.T, f api.Form) {
		one := uint64(3 * width(f))
		// Entries behind the first ones: they are moved as well, but tell nothing.
		x := lay(f, fill(40, 9), at(base+1, base+20), at(base+30), api.Dyn{Tag: 7, Val: base}, api.Dyn{Tag: 8, Val: one}, api.Dyn{Tag: 17, Val: base + 2}, api.Dyn{Tag: 18, Val: 3 * one})
		moves(t, x.Model, x.and(1, 20, 30, x.val(4), x.val(6))...)
		// The second of Tag 8 would be right, the first one isn't.
		x = lay(f, fill(40, 9), at(base+1, base+20), at(base+30), api.Dyn{Tag: 8, Val: 2 * one}, api.Dyn{Tag: 18, Val: 2 * one / 3})
		x.set(x.val(1), one+1)
		x.set(x.val(3), one+1)
		moves(t, x.Model, x.and()...)
		x.set(x.val(1), one)
		moves(t, x.Model, x.and(1)...)
		// So with Tag 7: the first one is in no segment, or at the second relocation.
		x = lay(f, fill(40, 9), at(base+1, base+20), nil, api.Dyn{Tag: 7, Val: base + 40})
		x.set(x.val(0), 5)
		moves(t, x.Model, x.val(2), x.val(4))
		x.set(x.val(0), base+40+one)
		x.set(x.val(1), one)
		moves(t, x.Model, x.and(20, x.val(4))...)
	})
}

// TestP19_1SizeTags holds that entries of other Tags tell nothing of relocations, such as those of how many bytes one has.
func TestP19_1SizeTags(t *testing.T) {
	each(t, func(t *testing.T, f api.Form) {
		for _, v := range []uint64{0, 1, 5, 8, 12, 16, 24, 25, top(f)} {
			x := lay(f, fill(40, 9), at(base+1, base+20), at(base+30), api.Dyn{Tag: 9, Val: v}, api.Dyn{Tag: 19, Val: v}, api.Dyn{Tag: 20, Val: 7}, api.Dyn{Tag: 2, Val: v})
			moves(t, x.Model, x.and(1, 20, 30)...)
		}
	})
}

// table is a model whose relocations are a segment's only bytes, which begin at an address, and have room in memory behind them; its entries tell of so many of the bytes.
func table(f api.Form, adds bool, tag, n uint64, addr uint64) api.Model {
	l := at(base, base+8, base+16)
	rels := relBytes(f, adds, l)
	e := dynBytes(f, []api.Dyn{{Tag: tag, Val: addr}, {Tag: tag + 1, Val: n}, {}})
	m := plain(f, load(base, 24, fill(24, 9)...), load(2*base, uint64(len(rels))+99, rels...), load(3*base, uint64(len(e)), e...))
	m.Segs = append(m.Segs, api.Seg{Type: api.Dynamic, Vaddr: 3 * base, Memsz: uint64(len(e)), At: in(2, 0, uint64(len(e)))})
	return m
}

// TestP19_1Tables holds where relocations begin, and how many bytes they have, at all edges of a segment.
func TestP19_1Tables(t *testing.T) {
	each(t, func(t *testing.T, f api.Form) {
		for _, adds := range []bool{true, false} {
			tag, one := uint64(17), uint64(2*width(f))
			if adds {
				tag, one = 7, uint64(3*width(f))
			}
			for n := range 3*one + 2 {
				for _, from := range []uint64{0, 1, one - 1, one, one + 1, 2 * one, 3*one - 1, 3 * one, 3*one + 1, 3*one + 98, 3*one + 99, math.MaxUint64} {
					checkTable(t, table(f, adds, tag, n, 2*base+from), from, n, one)
				}
			}
		}
	})
}

// checkTable holds what is moved by relocations of so many bytes, n of which are told from a place on.
func checkTable(t *testing.T, m api.Model, from, n, one uint64) {
	t.Helper()
	f := m.Ident.Form
	want := further(m, far(f))
	if from < 3*one+99 {
		b := want.Segs[2].At.Own[width(f):]
		copy(b, word(f, number(f, b)+far(f)))
	}
	// Those that don't begin where one does are none, for their Types are others.
	if n%one == 0 && from%one == 0 && from <= 3*one && from+n <= 3*one {
		for i := range n / one {
			b := want.Segs[0].At.Own[8*(from/one+i):]
			copy(b, word(f, number(f, b)+far(f)))
		}
	}
	is(t, m, far(f), want)
}

// TestP19_1TablesFarAway holds sizes and addresses up to the greatest number.
func TestP19_1TablesFarAway(t *testing.T) {
	each(t, func(t *testing.T, f api.Form) {
		for _, adds := range []bool{true, false} {
			tag, one := uint64(17), uint64(2*width(f))
			if adds {
				tag, one = 7, uint64(3*width(f))
			}
			numbers := []uint64{0, one, 3 * one, 4 * one, 5 * one, 48, 96, 2 * base, 2*base + one, 3 * base, 3*base + 1<<12, top(f)/2 + 1, top(f) - 2*base + 1, top(f) - 2*base + 1 + one, top(f) - 95, top(f) - 47, top(f) - one + 1, top(f) - 23, top(f) - 15, top(f) - 11, top(f) - 7, top(f) - 1, top(f)}
			for _, addr := range numbers {
				for _, n := range numbers {
					m := table(f, adds, tag, n, addr)
					was := m.Segs[0].At.Own
					agree(t, m, far(f))
					from := addr - 2*base
					hits := from%one == 0 && from <= 3*one && n > 0 && n%one == 0 && n <= 3*one-from
					if w := told(m, far(f)).Segs[0].At.Own; slices.Equal(was, w) == hits {
						t.Error(addr, n, w)
					}
				}
			}
		}
	})
}

// TestP19_1TablesInOthers holds relocations in segments of other Types, in two of Type Load, and at the edges of the class.
func TestP19_1TablesInOthers(t *testing.T) {
	each(t, func(t *testing.T, f api.Form) {
		d := far(f)
		one := uint64(2 * width(f))
		for _, kind := range []uint32{0, 1, 2, 3, otherSeg, 257, math.MaxUint32} {
			m := table(f, false, 17, 3*one, 2*base)
			m.Segs[1].Type = kind
			want := further(m, d)
			if kind == 1 {
				for _, b := range [][]byte{want.Segs[0].At.Own, want.Segs[0].At.Own[8:], want.Segs[0].At.Own[16:], want.Segs[2].At.Own[width(f):]} {
					copy(b, word(f, number(f, b)+d))
				}
			}
			if kind == 2 {
				// Its bytes are then the first entries, and there is none of Tag 0.
				m.Segs[1].At, want.Segs[1].At = own(fill(9, 1)...), own(fill(9, 1)...)
			}
			is(t, m, d, want)
		}
		// Two segments, one right behind the other: all bytes are among one's, or they are no relocations.
		m := table(f, false, 17, 2*one, 2*base)
		rels := m.Segs[1].At.Own
		m.Segs[1] = load(2*base, one, rels[:one]...)
		m.Segs = slices.Insert(m.Segs, 2, load(2*base+one, 2*one, rels[one:]...))
		m.Segs[4].At.In = 3
		want := further(m, d)
		b := want.Segs[3].At.Own[width(f):]
		copy(b, word(f, number(f, b)+d))
		is(t, m, d, want)
		// The second segment's.
		set := func(at int, v uint64) {
			copy(m.Segs[3].At.Own[at*width(f):], word(f, v))
			copy(want.Segs[3].At.Own[at*width(f):], word(f, v))
		}
		set(1, 2*base+one)
		copy(b, word(f, 2*base+one+d))
		for _, at := range []int{8, 16} {
			b := want.Segs[0].At.Own[at:]
			copy(b, word(f, number(f, b)+d))
		}
		is(t, m, d, want)
	})
}

// TestP19_1TablesAtTheTop holds relocations and words in the last bytes of all, which can be moved by 0 alone, and in the first ones.
func TestP19_1TablesAtTheTop(t *testing.T) {
	each(t, func(t *testing.T, f api.Form) {
		for _, adds := range []bool{true, false} {
			tag, one := uint64(17), uint64(2*width(f))
			if adds {
				tag, one = 7, uint64(3*width(f))
			}
			for _, v := range []uint64{0, 1, top(f) - 3*one + 1} {
				for _, n := range []uint64{one, 2 * one, 3 * one, 4 * one, 3*one - 1, 3*one + 1, top(f)} {
					m := table(f, adds, tag, n, v)
					m.Segs[0].Vaddr, m.Segs[1].Vaddr, m.Segs[2].Vaddr = base, v, 3*base
					m.Segs[1].Memsz = 3 * one
					l := m.Segs[:3]
					if v < base {
						l[0], l[1] = l[1], l[0]
					} else {
						l[1], l[2] = l[2], l[1]
						m.Segs[3].At.In = 1
					}
					agree(t, m, 0)
					agree(t, m, 1)
					agree(t, m, 0x10000)
				}
			}
		}
	})
}

// TestP19_1TablesAtZero holds relocations at address 0: an entry tells so, and where there is none, or it is behind the one of Tag 0, they are none.
func TestP19_1TablesAtZero(t *testing.T) {
	each(t, func(t *testing.T, f api.Form) {
		for _, adds := range []bool{true, false} {
			tag, other := uint64(17), uint64(7)
			if adds {
				tag, other = 7, 17
			}
			rels := relBytes(f, adds, at(100, 109))
			n := uint64(len(rels))
			b := append(rels, fill(120, 9)...)
			for _, c := range []struct {
				l    []api.Dyn
				want []int
			}{
				{[]api.Dyn{{Tag: tag}, {Tag: tag + 1, Val: n}, {}}, []int{100, 109, 0}},
				{[]api.Dyn{{Tag: tag + 1, Val: n}, {Tag: tag}, {}}, []int{100, 109, 1}},
				{[]api.Dyn{{Tag: tag + 1, Val: n / 2}, {Tag: tag}, {}}, []int{100, 1}},
				{[]api.Dyn{{Tag: tag + 1}, {Tag: tag}, {}}, []int{1}},
				{[]api.Dyn{{Tag: tag + 1, Val: n}, {}}, nil},
				{[]api.Dyn{{Tag: tag + 1, Val: n}, {}, {Tag: tag}}, nil},
				{[]api.Dyn{{Tag: other}, {Tag: tag + 1, Val: n}, {}}, []int{0}},
				{[]api.Dyn{{Tag: tag}, {}, {Tag: tag + 1, Val: n}}, []int{0}},
			} {
				e := dynBytes(f, c.l)
				m := plain(f, load(0, 999, append(slices.Clone(b), e...)...), api.Seg{Type: api.Dynamic, At: in(0, uint64(len(b)), uint64(len(e)))})
				var want []int
				for _, v := range c.want {
					// Small numbers count entries: that one's Val is moved.
					if v < 9 {
						v = len(b) + (2*v+1)*width(f)
					}
					want = append(want, v)
				}
				moves(t, m, want...)
			}
		}
	})
}
