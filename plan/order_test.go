package plan_test

import (
	"slices"
	"testing"

	"bezant/api"
	"bezant/plan"
)

// TestP15_1NoBytesByHand holds that places without bytes are laid like others: what is behind begins where they would end.
func TestP15_1NoBytesByHand(t *testing.T) {
	each(t, func(t *testing.T, f api.Form) {
		m := with(of(f, load(0, 0, 3), load(4096, 4096, 0), load(4097, 0, 1), load(8190, 32, 0), other(own(0)), other(own(1)), other(own(0)), other(own(2))),
			sec(own(0)), sec(own(1)), api.Sec{Type: api.NoBits, Size: 99, At: own(0)}, api.Sec{Size: 7, At: own(0)}, sec(own(0)), sec(own(4)))
		at := uint64(front(f, 8))
		// 8190 is 30 modulo 32: 4126; 4128 to 4129; 4136 to 4138; 4144 to 4145; 4152 to 4156; 4160, seven of 40, or of 64.
		want := plan.Plan{
			Phoff: 52, Shoff: 4160, Size: 4440,
			Segs: []uint64{at, 4096, 4096, 4126, 4128, 4128, 4136, 4136},
			Secs: []uint64{4144, 4144, 4152, 4152, 4152, 4152},
		}
		if f.Wide {
			want.Phoff, want.Size = 64, 4608
		}
		check(t, m, want)
	})
}

// TestP15_1NoBytesMove holds that a place without bytes moves what is behind it as far as one of its own place would.
func TestP15_1NoBytesMove(t *testing.T) {
	each(t, func(t *testing.T, f api.Form) {
		for n := range 15 {
			step := uint64(1) << n
			for v := range uint64(17) {
				m := of(f, load(v, step, 0), load(v, 0, 5))
				at := uint64(front(f, 2))
				at += (v - at) & (step - 1)
				p, err := plan.Of(m)
				if err != nil || !slices.Equal(p.Segs, []uint64{at, at}) || p.Size != at+5 {
					t.Error(p, err)
				}
				agree(t, m)
				sizeIs(t, of(f, load(v, step, 0), other(own(0))), up(int(at)))
			}
		}
	})
}

// TestP15_1LoadedAhead holds each order of three loaded segments among three others: the loaded ones are laid ahead.
func TestP15_1LoadedAhead(t *testing.T) {
	each(t, func(t *testing.T, f api.Form) {
		loaded := []api.Seg{load(5, 16, 3), load(1001, 8, 9), load(2000, 0, 4)}
		others := []api.Seg{other(own(9)), other(own(0)), other(own(3))}
		at := uint64(front(f, 6))
		a := at + (5-at)&15
		b := a + 3 + (1001-a-3)&7
		c := b + 9
		d := uint64(up(int(c) + 4))
		first, second := []uint64{a, b, c}, []uint64{d, d + 16, d + 16}
		for which := range 1 << 6 {
			m := of(f)
			var want []uint64
			for n := range 6 {
				if i := len(m.Segs); which>>n&1 == 1 {
					k := countLoaded(m)
					if k < 3 {
						m.Segs, want = append(m.Segs, loaded[k]), append(want, first[k])
					}
				} else if k := i - countLoaded(m); k < 3 {
					m.Segs, want = append(m.Segs, others[k]), append(want, second[k])
				}
			}
			if len(m.Segs) != 6 {
				continue
			}
			p, err := plan.Of(m)
			if err != nil || !slices.Equal(p.Segs, want) || p.Size != d+19 {
				t.Errorf("%b: %+v, %v, not %v", which, p, err, want)
			}
			agree(t, m)
		}
	})
}

// countLoaded tells how many segments of Type Load there are.
func countLoaded(m api.Model) int {
	n := 0
	for _, s := range m.Segs {
		if s.Type == api.Load {
			n++
		}
	}
	return n
}

// TestP15_1InASegment holds each place in a segment, of segments ahead of it and behind it, and of sections.
func TestP15_1InASegment(t *testing.T) {
	each(t, func(t *testing.T, f api.Form) {
		for off := range uint64(7) {
			for size := uint64(1); off+size <= 7; size++ {
				p := in(2, off, size)
				m := with(of(f, other(p), load(9, 64, 5), load(100, 32, 7), other(p), other(own(2))), sec(p), sec(own(1)), sec(p))
				x, err := plan.Of(m)
				if err != nil {
					t.Fatal(err)
				}
				at := x.Segs[2] + off
				if x.Segs[0] != at || x.Segs[3] != at || x.Secs[0] != at || x.Secs[2] != at {
					t.Error(off, size, x)
				}
				if x.Segs[4] != uint64(up(int(x.Segs[2])+7)) || x.Secs[1] != x.Segs[4]+8 || x.Shoff != x.Secs[1]+8 {
					t.Error(off, size, x)
				}
				agree(t, m)
			}
		}
	})
}

// TestP15_1InASegmentByHand holds places in a segment that is itself laid late, from ahead of it in the list and from behind.
func TestP15_1InASegmentByHand(t *testing.T) {
	check(t, with(of(api.Form{}, other(in(4, 3, 2)), other(own(1)), load(0x100, 0x100, 6), other(in(2, 5, 1)), load(0x207, 0x100, 9), other(in(4, 0, 9)), other(in(2, 0, 6))),
		sec(in(4, 8, 1)), sec(own(3)), sec(in(2, 1, 2))), plan.Plan{
		// 52, seven of 32: 276. 512 to 518; 519 to 528; 528 to 529; 536 to 539; 544, four of 40.
		Phoff: 52, Shoff: 544, Size: 704, Segs: []uint64{522, 528, 512, 517, 519, 519, 512}, Secs: []uint64{527, 536, 513},
	})
	check(t, with(of(api.Form{Wide: true}, other(in(4, 3, 2)), other(own(1)), load(0x100, 0x100, 6), other(in(2, 5, 1)), load(0x207, 0x100, 9), other(in(4, 0, 9)), other(in(2, 0, 6))),
		sec(in(4, 8, 1)), sec(own(3)), sec(in(2, 1, 2))), plan.Plan{
		// 64, seven of 56: 456. 512 to 518; 519 to 528; 528 to 529; 536 to 539; 544, four of 64.
		Phoff: 64, Shoff: 544, Size: 800, Segs: []uint64{522, 528, 512, 517, 519, 519, 512}, Secs: []uint64{527, 536, 513},
	})
}

// TestP15_1InASegmentMovesNothing holds that what has its place in a segment has no room in the file, and isn't moved to a multiple of 8.
func TestP15_1InASegmentMovesNothing(t *testing.T) {
	each(t, func(t *testing.T, f api.Form) {
		_, prog, sect := sizes(f)
		for n := 1; n < 14; n++ {
			m := of(f, load(0, 0, 20))
			for i := range n {
				m.Segs = append(m.Segs, other(in(0, uint64(i), 3)))
			}
			sizeIs(t, m, front(f, 1)+n*prog+20)
			p, err := plan.Of(m)
			for i := range n {
				if err != nil || p.Segs[i+1] != p.Segs[0]+uint64(i) {
					t.Error(p, err)
				}
			}
			m = of(f, load(0, 0, 20))
			for i := range n {
				m.Secs = append(m.Secs, sec(in(0, uint64(i), 3)))
			}
			sizeIs(t, m, up(front(f, 1)+20)+sect*(n+1))
			p, err = plan.Of(m)
			for i := range n {
				if err != nil || p.Secs[i] != p.Segs[0]+uint64(i) {
					t.Error(p, err)
				}
			}
		}
	})
}

// TestP15_1InEachSegment holds that a place's In is the segment's number in the list, of all segments.
func TestP15_1InEachSegment(t *testing.T) {
	each(t, func(t *testing.T, f api.Form) {
		for loaded := 1; loaded <= 8; loaded++ {
			m := of(f)
			for i := range loaded {
				m.Segs = append(m.Segs, other(in(2*i+1, uint64(i), 2)), load(uint64(1000*i), 64, 30+i))
				m.Secs = append(m.Secs, sec(in(2*(loaded-1-i)+1, uint64(29-i), 1)))
			}
			p, err := plan.Of(m)
			if err != nil {
				t.Fatal(err)
			}
			for i := range loaded {
				at := p.Segs[2*i+1]
				if p.Segs[2*i] != at+uint64(i) || p.Secs[loaded-1-i] != at+29-uint64(loaded-1-i) {
					t.Error(loaded, i, p)
				}
				if i > 0 && (at-uint64(1000*i))%64 != 0 {
					t.Error(loaded, i, p)
				}
			}
			agree(t, m)
		}
	})
}

// TestP15_1InTheLastByteThereMayBe holds a place at the end of the greatest file.
func TestP15_1InTheLastByteThereMayBe(t *testing.T) {
	each(t, func(t *testing.T, f api.Form) {
		n := 65536 - front(f, 2)
		m := of(f, other(in(1, uint64(n-1), 1)), load(0, 0, n))
		p, err := plan.Of(m)
		if err != nil || p.Size != 65536 || p.Segs[0] != 65535 {
			t.Error(p, err)
		}
		agree(t, m)
		m.Segs[0].At = in(1, 0, uint64(n))
		p, err = plan.Of(m)
		if err != nil || p.Size != 65536 || p.Segs[0] != p.Segs[1] {
			t.Error(p, err)
		}
		agree(t, m)
	})
}

// TestP15_1OneWithoutBytesElsewhere holds that a section of Null or NoBits is laid where no segment is, whatever it tells.
func TestP15_1OneWithoutBytesElsewhere(t *testing.T) {
	each(t, func(t *testing.T, f api.Form) {
		for n := range 40 {
			m := with(of(f, load(0x1000, 0, n)), api.Sec{Type: api.NoBits, Addr: 0x1000 + uint64(n), Size: 64, At: own(0)}, api.Sec{Addr: 0x1000, Size: 5, At: own(0)})
			p, err := plan.Of(m)
			at := uint64(up(front(f, 1) + n))
			if err != nil || !slices.Equal(p.Secs, []uint64{at, at}) || p.Shoff != at {
				t.Error(n, p, err)
			}
			agree(t, m)
		}
	})
}
