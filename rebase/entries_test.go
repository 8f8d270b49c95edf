package rebase_test

import (
	"math"
	"slices"
	"testing"

	"bezant/api"
	"bezant/model"
	"bezant/rebase"
)

// listed tells a model whose entries are these and one of Tag 0, among the bytes of a loaded segment, from a place on.
func listed(f api.Form, off int, l ...api.Dyn) laid {
	e := dynBytes(f, append(slices.Clone(l), api.Dyn{}))
	b := append(fill(off, 7), e...)
	m := plain(f, load(base, uint64(len(b))+32, b...), api.Seg{Type: api.Dynamic, Vaddr: 9, Memsz: 1, At: in(0, uint64(off), uint64(len(e)))})
	return laid{Model: m, entries: off}
}

func TestP19_1Tags(t *testing.T) {
	each(t, func(t *testing.T, f api.Form) {
		l := []uint64{1<<31 + 3, math.MaxUint32, math.MaxUint32 - 1, top(f)}
		for v := range uint64(300) {
			l = append(l, v+1)
		}
		for _, v := range addressTags() {
			l = append(l, v-1, v, v+1, v|1<<8, v|1<<16, v|1<<24, v|1<<30, v|1<<31)
			if f.Wide {
				l = append(l, v|1<<32, v|1<<40, v|1<<63, v<<32, v<<32|v)
			}
		}
		for v := uint64(0x6ffffe00); v < 0x70000002; v++ {
			l = append(l, v)
		}
		for _, tag := range l {
			if tag == 0 {
				continue
			}
			// Of Tag 7 and 17 there are no relocations, for how many bytes they have isn't told.
			x := listed(f, 3, api.Dyn{Tag: tag, Val: base + 1}, api.Dyn{Tag: 1, Val: base + 1}, api.Dyn{Tag: tag, Val: base})
			if slices.Contains(addressTags(), tag) {
				moves(t, x.Model, x.val(0), x.val(2))
			} else {
				moves(t, x.Model)
			}
		}
	})
}

// TestP19_1AllTags holds all Tags that tell an address in one list, each twice, and others between.
func TestP19_1AllTags(t *testing.T) {
	each(t, func(t *testing.T, f api.Form) {
		var l []api.Dyn
		for i, v := range append(addressTags(), addressTags()...) {
			l = append(l, api.Dyn{Tag: v, Val: base + uint64(i)}, api.Dyn{Tag: 14, Val: base + uint64(i)})
		}
		x := listed(f, 16, l...)
		var want []int
		for i := range l {
			if i%2 == 0 {
				want = append(want, x.val(i))
			}
		}
		moves(t, x.Model, want...)
		if len(want) != 32 {
			t.Error(len(want))
		}
	})
}

// TestP19_1Vals holds Vals at the edges of segments, in several, in ones of other Types, and in none.
func TestP19_1Vals(t *testing.T) {
	each(t, func(t *testing.T, f api.Form) {
		for _, tag := range addressTags() {
			x := listed(f, 0, api.Dyn{Tag: tag}, api.Dyn{Tag: 4, Val: base})
			n := uint64(len(x.bytes()))
			x.Segs[0].Memsz = n + 32
			x.Segs = append(x.Segs,
				load(2*base, 5, 1, 2), load(2*base+5, 1), load(2*base+7, 0),
				api.Seg{Type: otherSeg, Vaddr: 3 * base, Memsz: 100, At: own(fill(9, 1)...)},
				api.Seg{Type: api.Dynamic, Vaddr: 4 * base, Memsz: 100, At: in(0, 0, 9)},
				api.Seg{Vaddr: 5 * base, Memsz: 100, At: own()},
			)
			for v, among := range map[uint64]bool{
				0: false, 1: false, base - 1: false, base: true, base + 1: true, base + n - 1: true, base + n: true, base + n + 31: true, base + n + 32: false,
				2*base - 1: false, 2 * base: true, 2*base + 2: true, 2*base + 4: true, 2*base + 5: true, 2*base + 6: false, 2*base + 7: false, 2*base + 8: false,
				3*base - 1: false, 3 * base: false, 3*base + 8: false, 4 * base: false, 5 * base: false, 5*base + 99: false,
				top(f)/2 + 1 + base: false, top(f) - base + 1: false, top(f) - 1: false, top(f): false,
			} {
				x.set(x.val(0), v)
				want := []int{x.val(1)}
				if among {
					want = append(want, x.val(0))
				}
				moves(t, x.Model, want...)
			}
		}
	})
}

// TestP19_1ValsBeyondTheClass holds Vals in 64 bits that are like one in a segment in their lowest 32.
func TestP19_1ValsBeyondTheClass(t *testing.T) {
	for _, big := range []bool{false, true} {
		f := api.Form{Wide: true, Big: big}
		for _, v := range []uint64{1<<32 + base, 1<<33 + base + 1, 1<<63 + base, math.MaxUint32<<32 | base} {
			x := listed(f, 5, api.Dyn{Tag: 5, Val: v}, api.Dyn{Tag: 6, Val: v & math.MaxUint32}, api.Dyn{Tag: 5 | 1<<32, Val: base})
			moves(t, x.Model, x.val(1))
		}
	}
}

// TestP19_1ValsAtTheTop holds Vals in the first and the last bytes of all.
func TestP19_1ValsAtTheTop(t *testing.T) {
	each(t, func(t *testing.T, f api.Form) {
		x := listed(f, 0, api.Dyn{Tag: 3}, api.Dyn{Tag: 4, Val: 7}, api.Dyn{Tag: 5, Val: 8}, api.Dyn{Tag: 6, Val: top(f)}, api.Dyn{Tag: 12, Val: base})
		x.Segs[0], x.Segs[1] = load(0, 8), x.Segs[0]
		x.Segs = append(x.Segs, api.Seg{Type: api.Dynamic, At: in(1, 0, uint64(len(x.Segs[1].At.Own)))})
		d := uint64(4096)
		want := further(x.Model, d)
		for _, i := range []int{0, 1, 4} {
			b := want.Segs[1].At.Own[x.val(i):]
			copy(b, word(f, number(f, b)+d))
		}
		is(t, x.Model, d, want)
		// The last address is in a segment that can't be moved.
		x.Segs = append(x.Segs, load(top(f)-3, 4, 1, 2, 3, 4))
		is(t, x.Model, 0, x.Model)
		refuses(t, x.Model, 1, api.ErrWrap)
		// One that is 8 bytes below can be moved up to it.
		x.Segs[3].Vaddr -= 8
		want = further(x.Model, 8)
		for _, i := range []int{0, 1, 4} {
			b := want.Segs[1].At.Own[x.val(i):]
			copy(b, word(f, number(f, b)+8))
		}
		is(t, x.Model, 8, want)
		refuses(t, x.Model, 9, api.ErrWrap)
	})
}

// TestP19_1EntriesEnd holds entries behind the first one of Tag 0, and lists without one: there are none then.
func TestP19_1EntriesEnd(t *testing.T) {
	each(t, func(t *testing.T, f api.Form) {
		for end := range 6 {
			x := lay(f, fill(40, 9), at(base+1), at(base+20), api.Dyn{Tag: 5, Val: base})
			x.set(x.tag(end), 0)
			// Each entry brings one word more: its own Val, or what relocations name whose table is then told.
			moves(t, x.Model, []int{x.val(0), 1, x.val(2), 20, x.val(4)}[:end]...)
		}
		// No Tag is 0: of the bytes that are left some are no entry.
		x := lay(f, fill(40, 9), at(base+1), at(base+20), api.Dyn{Tag: 5, Val: base})
		last := x.tag(5)
		x.set(last, 1)
		moves(t, x.Model)
		x.set(last, 5)
		moves(t, x.Model)
		x.set(last, 0)
		moves(t, x.Model, x.and(1, 20, x.val(4))...)
	})
}

// TestP19_1EntriesCutOff holds segments of Type Dynamic of any number of bytes: without a whole entry of Tag 0 there are none.
func TestP19_1EntriesCutOff(t *testing.T) {
	each(t, func(t *testing.T, f api.Form) {
		x := lay(f, fill(40, 9), at(base+1), at(base+20), api.Dyn{Tag: 5, Val: base})
		all := len(x.bytes()) - x.entries
		for n := 1; n <= all; n++ {
			x.Segs[1].At.Size = uint64(n)
			if n < all {
				moves(t, x.Model)
			} else {
				moves(t, x.Model, x.and(1, 20, x.val(4))...)
			}
		}
		// And none at all; so has one with bytes of its own.
		x.Segs[1].At = own()
		moves(t, x.Model)
		b := x.bytes()[x.entries:]
		for n := range all + 1 {
			x.Segs[1].At = own(b[:n]...)
			if n < all {
				moves(t, x.Model)
			} else {
				moves(t, x.Model, 1, 20)
			}
		}
		// Further bytes behind the one of Tag 0 are any.
		for n := range 3 * width(f) {
			x.Segs[1].At = own(append(slices.Clone(b), fill(n, 5)...)...)
			moves(t, x.Model, 1, 20)
		}
	})
}

// TestP19_1EntriesAt holds entries that begin at each place in a segment, whatever Vaddr and Memsz theirs tells.
func TestP19_1EntriesAt(t *testing.T) {
	each(t, func(t *testing.T, f api.Form) {
		for off := range 40 {
			x := listed(f, off, api.Dyn{Tag: 5, Val: base + 9}, api.Dyn{Tag: 14, Val: base + 9}, api.Dyn{Tag: 6, Val: base})
			moves(t, x.Model, x.val(0), x.val(2))
			for _, v := range []uint64{0, base, base + uint64(off), 3 * base} {
				x.Segs[1].Vaddr, x.Segs[1].Memsz, x.Segs[1].Paddr = v, v, v
				moves(t, x.Model, x.val(0), x.val(2))
			}
			// All that is ahead belongs to it as well, or just one byte more.
			x.Segs[1].At.Off, x.Segs[1].At.Size = 0, uint64(len(x.bytes()))
			agree(t, x.Model, far(f))
			if off > 0 {
				x.Segs[1].At.Off, x.Segs[1].At.Size = uint64(off-1), uint64(len(x.bytes())-off+1)
				agree(t, x.Model, far(f))
			}
		}
	})
}

// TestP19_1EntriesOfSegments holds entries in each of several segments.
func TestP19_1EntriesOfSegments(t *testing.T) {
	each(t, func(t *testing.T, f api.Form) {
		d := far(f)
		b := append(fill(6, 3), dynBytes(f, []api.Dyn{{Tag: 5, Val: base}, {Tag: 6, Val: 5 * base}, {Tag: 3, Val: 3 * base}, {}})...)
		for i := range 3 {
			m := plain(f, load(base, 200, b...), load(2*base, 200, b...), load(3*base, 200, b...), api.Seg{Type: api.Dynamic, At: in(i, 6, uint64(len(b)-6))})
			want := further(m, d)
			for _, k := range []int{1, 5} {
				b := want.Segs[i].At.Own[6+k*width(f):]
				copy(b, word(f, number(f, b)+d))
			}
			is(t, m, d, want)
			// The same, if it stands ahead of the others.
			m.Segs = []api.Seg{m.Segs[3], m.Segs[0], m.Segs[1], m.Segs[2]}
			want.Segs = []api.Seg{want.Segs[3], want.Segs[0], want.Segs[1], want.Segs[2]}
			m.Segs[0].At.In, want.Segs[0].At.In = i+1, i+1
			is(t, m, d, want)
		}
	})
}

// TestP19_1OwnEntries holds a segment of Type Dynamic with its own bytes: it tells of relocations, but its words stay.
func TestP19_1OwnEntries(t *testing.T) {
	each(t, func(t *testing.T, f api.Form) {
		x := lay(f, fill(40, 9), at(base+1), at(base+20), api.Dyn{Tag: 5, Val: base})
		b := slices.Clone(x.bytes()[x.entries:])
		x.Segs[1].At = own(b...)
		moves(t, x.Model, 1, 20)
		n, err := rebase.Rebase(x.Model, far(f))
		if err != nil || !slices.Equal(n.Segs[1].At.Own, b) {
			t.Error(err, brief(n))
		}
		// Also where its Vaddr is in the loaded segment, at the same bytes, or elsewhere.
		for _, v := range []uint64{0, base, base + uint64(x.entries), 9 * base} {
			x.Segs[1].Vaddr, x.Segs[1].Memsz = v, uint64(len(b))
			moves(t, x.Model, 1, 20)
		}
	})
}

// TestP19_1SeveralDynamic holds that the first segment of Type Dynamic alone has a say.
func TestP19_1SeveralDynamic(t *testing.T) {
	each(t, func(t *testing.T, f api.Form) {
		x := lay(f, fill(40, 9), at(base+1), nil, api.Dyn{Tag: 5, Val: base})
		e := dynBytes(f, []api.Dyn{{Tag: 6, Val: base}, {Tag: 17, Val: base + uint64(x.with)}, {Tag: 18, Val: uint64(2 * width(f))}, {}})
		x.Segs = append(x.Segs, load(2*base, 400, e...), api.Seg{Type: api.Dynamic, At: in(2, 0, uint64(len(e)))})
		moves(t, x.Model, x.and(1, x.val(4))...)
		// The second one ahead: what it tells of is read as relocations without Add; the first entries stay.
		x.Segs[1], x.Segs[3] = x.Segs[3], x.Segs[1]
		want := further(x.Model, far(f))
		copy(want.Segs[2].At.Own[width(f):], word(f, base+far(f)))
		copy(want.Segs[2].At.Own[3*width(f):], word(f, base+uint64(x.with)+far(f)))
		b := want.Segs[0].At.Own[1:]
		copy(b, word(f, number(f, b)+far(f)))
		is(t, x.Model, far(f), want)
		// A first one without entries: there are none.
		for _, p := range []api.Place{own(), own(fill(50, 1)...), in(0, 0, 3), own(make([]byte, 40)...)} {
			x.Segs[1].At = p
			is(t, x.Model, far(f), further(x.Model, far(f)))
		}
	})
}

// TestP19_1NoDynamic holds models without a segment of Type Dynamic: none of their words is moved.
func TestP19_1NoDynamic(t *testing.T) {
	each(t, func(t *testing.T, f api.Form) {
		x := lay(f, fill(40, 9), at(base+1), at(base+20), api.Dyn{Tag: 5, Val: base})
		for _, kind := range []uint32{0, 3, otherSeg, 258, 1 << 31, 0x6474e552, math.MaxUint32} {
			x.Segs[1].Type = kind
			moves(t, x.Model)
		}
		x.Segs = x.Segs[:1]
		// A section of entries has no say.
		x.Secs = []api.Sec{{Type: 6, Flags: 3, Addr: base, Size: uint64(len(x.bytes()) - x.entries), At: in(0, uint64(x.entries), uint64(len(x.bytes())-x.entries))}}
		moves(t, x.Model)
		if b := model.Bytes(x.Model, x.Secs[0].At); len(b) != len(x.bytes())-x.entries {
			t.Error(len(b))
		}
	})
}
