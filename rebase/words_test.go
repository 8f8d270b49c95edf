package rebase_test

import (
	"bytes"
	"math"
	"testing"

	"bezant/api"
	"bezant/rebase"
)

// offs tells a model with a relative relocation for each of these Offs, with Add or without; each of its bytes is another one than its neighbour.
func offs(f api.Form, adds bool, l ...uint64) laid {
	if adds {
		return lay(f, fill(40, 9), at(l...), nil)
	}
	return lay(f, fill(40, 9), nil, at(l...))
}

// TestP19_1Offs holds Offs at each byte of a segment, ahead of it, where the word just ends with its bytes, and behind that.
func TestP19_1Offs(t *testing.T) {
	each(t, func(t *testing.T, f api.Form) {
		for _, adds := range []bool{true, false} {
			x := offs(f, adds, 0)
			n := len(x.bytes())
			for at := -20; at < n+90; at++ {
				x = offs(f, adds, base+uint64(at))
				agree(t, x.Model, far(f))
				switch {
				case at < 0 || at+width(f) > n:
					// One that isn't wholly in the file is none; nothing is changed but what is told of the tables.
					moves(t, x.Model, x.and()...)
				case at+width(f) <= x.entries:
					moves(t, x.Model, x.and(at)...)
				}
			}
		}
	})
}

// TestP19_1OffsFarAway holds Offs up to the greatest number, and such as are like one in a segment modulo powers of two.
func TestP19_1OffsFarAway(t *testing.T) {
	each(t, func(t *testing.T, f api.Form) {
		l := []uint64{0, 1, base / 2, base - 8, 2 * base, 1 << 24, 1 << 31, 1<<31 + base, top(f)/2 + 1 + base, top(f) - base + 1, top(f) - 8, top(f) - 7, top(f) - 3, top(f) - 1, top(f)}
		if f.Wide {
			l = append(l, 1<<32, 1<<32+base, 1<<48+base+8, math.MaxUint32)
		}
		for _, adds := range []bool{true, false} {
			for _, v := range l {
				x := offs(f, adds, base+3, v, base+20)
				moves(t, x.Model, x.and(3, 20)...)
			}
		}
	})
}

// TestP19_1OffsAtTheEnd holds words in segments that have just room for one, and one byte less, at the edges of the class.
func TestP19_1OffsAtTheEnd(t *testing.T) {
	each(t, func(t *testing.T, f api.Form) {
		w := uint64(width(f))
		for _, v := range []uint64{0, 1, top(f)/2 + 1, top(f) - w - 0xffff, top(f) - w} {
			for _, n := range []uint64{0, 1, w - 1, w, w + 1} {
				for _, memsz := range []uint64{w + 1, n} {
					for _, off := range []uint64{v - 1, v, v + 1, v + n - w, top(f) - w + 1, top(f)} {
						x := offs(f, true, off&top(f))
						s := load(v, memsz, fill(int(n), 3)...)
						m := x.Model
						if v < base {
							m.Segs = []api.Seg{s, m.Segs[0], m.Segs[1]}
							m.Segs[2].At.In = 1
						} else {
							m.Segs = []api.Seg{m.Segs[0], s, m.Segs[1]}
						}
						agree(t, m, 0)
						agree(t, m, 16)
						agree(t, m, 0xfff0)
					}
				}
			}
		}
	})
}

// TestP19_1OffsOfSegments holds a word in each of several segments, in ones of other Types, and across two of them.
func TestP19_1OffsOfSegments(t *testing.T) {
	each(t, func(t *testing.T, f api.Form) {
		w, d := uint64(width(f)), far(f)
		for off := uint64(3*base - 2); off < 3*base+3*w+40; off++ {
			x := offs(f, false, off)
			m := x.Model
			m.Segs = append(m.Segs,
				api.Seg{Type: otherSeg, Vaddr: 3 * base, Memsz: 200, At: own(fill(99, 1)...)},
				load(3*base, w, fill(int(w), 20)...),
				load(3*base+w, w+3, fill(int(w)+2, 40)...),
				api.Seg{Type: api.Dynamic, Vaddr: 3*base + 2*w, Memsz: 200, At: own(fill(99, 1)...)},
				api.Seg{Vaddr: 3*base + 2*w, Memsz: 200, At: in(0, 0, 30)},
				load(3*base+2*w+20, w, fill(int(w), 60)...))
			want := further(m, d)
			for _, at := range x.tables() {
				b := want.Segs[0].At.Own[at:]
				copy(b, word(f, number(f, b)+d))
			}
			for i, from := range map[int]uint64{3: 3 * base, 4: 3*base + w, 7: 3*base + 2*w + 20} {
				if off >= from && off+w <= from+uint64(len(m.Segs[i].At.Own)) {
					b := want.Segs[i].At.Own[off-from:]
					copy(b, word(f, number(f, b)+d))
				}
			}
			is(t, m, d, want)
		}
	})
}

// TestP19_1SameWord holds words that several relocations name, of one table and of both.
func TestP19_1SameWord(t *testing.T) {
	each(t, func(t *testing.T, f api.Form) {
		x := lay(f, fill(40, 9), at(base+5, base+5), nil)
		moves(t, x.Model, x.and(5, 5)...)
		x = lay(f, fill(40, 9), at(base+5, base+20, base+5, base+5), nil)
		moves(t, x.Model, x.and(5, 5, 5, 20)...)
		x = lay(f, fill(40, 9), at(base+5), at(base+5))
		moves(t, x.Model, x.and(5, 5)...)
		x = lay(f, fill(40, 9), at(base+5, base+8), at(base+20, base+5, base+5))
		moves(t, x.Model, x.and(5, 8, 20, 5, 5)...)
		// One table that is told as both kinds: of the bytes of three words the first two are read as well.
		x = lay(f, fill(40, 9), nil, at(base+5, base+20, base+30))
		x.set(x.val(0), x.get(x.val(2)))
		x.set(x.val(1), x.get(x.val(3)))
		moves(t, x.Model, x.and(5, 5, 20, 30)...)
	})
}

// TestP19_1WordsThatMeet holds all pairs of words that meet in part, in both orders, and of both tables: each is moved as the ones ahead of it have left it.
func TestP19_1WordsThatMeet(t *testing.T) {
	each(t, func(t *testing.T, f api.Form) {
		orders := 0
		for i := range 12 {
			for k := range 12 {
				a, b := base+uint64(i), base+uint64(k)
				x := lay(f, fill(40, 250), at(a, b), nil)
				moves(t, x.Model, x.and(i, k)...)
				there, err := rebase.Rebase(x.Model, far(f))
				if err != nil {
					t.Fatal(err)
				}
				x = lay(f, fill(40, 250), at(b, a), nil)
				moves(t, x.Model, x.and(k, i)...)
				back, err := rebase.Rebase(x.Model, far(f))
				if err != nil {
					t.Fatal(err)
				}
				if !bytes.Equal(there.Segs[0].At.Own[:40], back.Segs[0].At.Own[:40]) {
					orders++
				}
				x = lay(f, fill(40, 250), at(a), at(b))
				moves(t, x.Model, x.and(i, k)...)
			}
		}
		if orders == 0 {
			t.Error("no order has a say")
		}
	})
}

// TestP19_1TablesInEachOrder holds that words which meet in part are moved first by relocations with Add, also where their table and their entries stand behind.
func TestP19_1TablesInEachOrder(t *testing.T) {
	each(t, func(t *testing.T, f api.Form) {
		for i := range 9 {
			for k := range 9 {
				without := relBytes(f, false, at(base+uint64(k)))
				x := lay(f, append(fill(16, 250), without...), at(base+uint64(i)), nil)
				with, size := x.get(x.val(0)), x.get(x.val(1))
				for i, e := range []api.Dyn{{Tag: 17, Val: base + 16}, {Tag: 18, Val: uint64(len(without))}, {Tag: 7, Val: with}, {Tag: 8, Val: size}} {
					x.set(x.tag(i), e.Tag)
					x.set(x.val(i), e.Val)
				}
				moves(t, x.Model, x.and(i, k)...)
			}
		}
	})
}

// TestP19_1WordsWrapRound holds words that go beyond the class: they are told modulo 2^32, and 2^64.
func TestP19_1WordsWrapRound(t *testing.T) {
	each(t, func(t *testing.T, f api.Form) {
		for _, v := range []uint64{0, 1, 15, 16, 255, top(f) / 2, top(f)/2 + 1, top(f) - 16, top(f) - 15, top(f) - 1, top(f)} {
			for _, adds := range []bool{true, false} {
				x := offs(f, adds, base+8, base+24)
				x.set(8, v)
				moves(t, x.Model, x.and(8, 24)...)
				d := far(f)
				n, err := rebase.Rebase(x.Model, d)
				if err != nil || number(f, n.Segs[0].At.Own[8:]) != (v+d)&top(f) {
					t.Error(err, brief(n))
				}
				// What is around the word isn't carried to.
				b := n.Segs[0].At.Own
				if !bytes.Equal(b[:8], fill(8, 9)) || !bytes.Equal(b[8+width(f):24], fill(40, 9)[8+width(f):24]) {
					t.Error(brief(n))
				}
			}
		}
	})
}

// TestP19_1OwnBytes holds relocations whose own bytes are words that are named: all is as it was ahead of that.
func TestP19_1OwnBytes(t *testing.T) {
	each(t, func(t *testing.T, f api.Form) {
		w := width(f)
		for _, adds := range []bool{true, false} {
			one := 2 * w
			if adds {
				one = 3 * w
			}
			// The first one names each byte of all three, the others two words of the data.
			for at := range 3*one - w + 1 {
				x := offs(f, adds, base+40+uint64(at), base+1, base+20)
				moves(t, x.Model, x.and(40+at, 1, 20)...)
				// The last one does.
				x = offs(f, adds, base+1, base+20, base+40+uint64(at))
				moves(t, x.Model, x.and(1, 20, 40+at)...)
			}
		}
		// Those with Add name the Offs and the Types of those without.
		x := lay(f, fill(40, 9), nil, at(base+1, base+20))
		size := 3 * w * 4
		for k := range 4 {
			l := []uint64{base + 40 + uint64(size), base + 40 + uint64(size+w), base + 40 + uint64(size+2*w), base + 40 + uint64(size+3*w)}
			l[0], l[k] = l[k], l[0]
			x = lay(f, fill(40, 9), at(l...), at(base+1, base+20))
			moves(t, x.Model, x.and(40+size, 40+size+w, 40+size+2*w, 40+size+3*w, 1, 20)...)
		}
	})
}

// TestP19_1EntriesBytes holds relocations that name the bytes of entries: Tags and Vals are read as they were, and Val of an address's entry is set, whatever was added to it.
func TestP19_1EntriesBytes(t *testing.T) {
	each(t, func(t *testing.T, f api.Form) {
		d := far(f)
		for _, adds := range []bool{true, false} {
			x := offs(f, adds, 0, base+30)
			for at := x.entries - width(f); at <= len(x.bytes())-width(f); at++ {
				x = lay(f, fill(40, 9), nil, nil, api.Dyn{Tag: 5, Val: base + 1}, api.Dyn{Tag: 14, Val: base + 2}, api.Dyn{Tag: 6, Val: 3})
				l := relBytes(f, adds, []api.Rel{{Off: base + uint64(at), Type: 8}, {Off: base + 30, Type: 8}})
				tag := 2
				if adds {
					tag = 0
				}
				// The relocations stand in a segment behind, so that all entries are in one place.
				x.set(x.val(tag), 4*base)
				x.set(x.val(tag+1), uint64(len(l)))
				x.Segs = append(x.Segs, load(4*base, uint64(len(l)), l...))
				want := further(x.Model, d)
				for _, v := range []int{at, 30} {
					b := want.Segs[0].At.Own[v:]
					copy(b, word(f, number(f, b)+d))
				}
				for _, i := range []int{0, 2, 4} {
					copy(want.Segs[0].At.Own[x.val(i):], word(f, x.get(x.val(i))+d))
				}
				is(t, x.Model, d, want)
			}
		}
	})
}
