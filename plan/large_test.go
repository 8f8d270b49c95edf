package plan_test

import (
	"math"
	"slices"
	"testing"

	"bezant/api"
	"bezant/plan"
)

// TestP15_1MaxFileByALoadedSegment holds bytes that end around MaxFile, of one segment, and of the last of several.
func TestP15_1MaxFileByALoadedSegment(t *testing.T) {
	each(t, func(t *testing.T, f api.Form) {
		for end := 65530; end < 65550; end++ {
			sizeIs(t, of(f, load(0, 0, end-front(f, 1))), end)
			sizeIs(t, of(f, load(0, 0, 1000), load(1000, 0, end-front(f, 2)-1000)), end)
			sizeIs(t, of(f, load(0, 0, end-front(f, 2)-1), load(1<<20, 0, 1)), end)
			sizeIs(t, of(f, load(0, 0, end-front(f, 2)), load(1<<20, 0, 0)), end)
			sizeIs(t, of(f, load(uint64(end-5), 65536, 5)), end)
		}
	})
}

// TestP15_1MaxFileByHand holds the last plan that may be, and the one that is a byte longer.
func TestP15_1MaxFileByHand(t *testing.T) {
	check(t, of(api.Form{}, load(0, 0, 65452)), plan.Plan{Phoff: 52, Size: 65536, Segs: []uint64{84}})
	refused(t, of(api.Form{}, load(0, 0, 65453)), api.ErrLarge)
	check(t, of(api.Form{Wide: true}, load(0, 0, 65416)), plan.Plan{Phoff: 64, Size: 65536, Segs: []uint64{120}})
	refused(t, of(api.Form{Wide: true}, load(0, 0, 65417)), api.ErrLarge)
	check(t, of(api.Form{}, other(own(65448))), plan.Plan{Phoff: 52, Size: 65536, Segs: []uint64{88}})
	refused(t, of(api.Form{}, other(own(65449))), api.ErrLarge)
	check(t, of(api.Form{Wide: true}, other(own(65416))), plan.Plan{Phoff: 64, Size: 65536, Segs: []uint64{120}})
	refused(t, of(api.Form{Wide: true}, other(own(65417))), api.ErrLarge)
	check(t, with(of(api.Form{}), sec(own(65400))), plan.Plan{Shoff: 65456, Size: 65536, Secs: []uint64{56}})
	refused(t, with(of(api.Form{}), sec(own(65401))), api.ErrLarge)
	check(t, with(of(api.Form{Wide: true}), sec(own(65344))), plan.Plan{Shoff: 65408, Size: 65536, Secs: []uint64{64}})
	refused(t, with(of(api.Form{Wide: true}), sec(own(65345))), api.ErrLarge)
}

// TestP15_1MaxFileByAnotherSegment holds the same of a segment that isn't loaded.
func TestP15_1MaxFileByAnotherSegment(t *testing.T) {
	each(t, func(t *testing.T, f api.Form) {
		for end := 65530; end < 65550; end++ {
			sizeIs(t, of(f, other(own(end-up(front(f, 1))))), end)
			sizeIs(t, of(f, other(own(9)), other(own(end-up(front(f, 2))-16))), end)
			sizeIs(t, of(f, load(0, 0, 3), other(own(end-up(front(f, 2)+3)))), end)
			sizeIs(t, of(f, other(own(end-up(front(f, 2)+3))), load(0, 0, 3)), end)
		}
	})
}

// TestP15_1MaxFileByAPlaceWithoutBytes holds that a place without bytes is moved, too, and that the file goes on up to it.
func TestP15_1MaxFileByAPlaceWithoutBytes(t *testing.T) {
	each(t, func(t *testing.T, f api.Form) {
		for end := 65520; end < 65550; end++ {
			sizeIs(t, of(f, load(0, 0, end-front(f, 2)), other(own(0))), up(end))
			sizeIs(t, of(f, load(0, 0, end-front(f, 3)), other(own(0)), other(own(0))), up(end))
			sizeIs(t, of(f, load(0, 0, end-front(f, 2)), load(1<<20, 16, 0)), (end+15)/16*16)
			sizeIs(t, of(f, other(own(end-up(front(f, 2)))), other(own(0))), up(end))
		}
	})
}

// TestP15_1MaxFileByASection holds bytes of sections up to MaxFile itself: no room is left for their headers.
func TestP15_1MaxFileByASection(t *testing.T) {
	each(t, func(t *testing.T, f api.Form) {
		_, _, sect := sizes(f)
		for end := 65536 - 3*sect; end < 65550; end++ {
			sizeIs(t, with(of(f), sec(own(end-up(front(f, 0))))), up(end)+2*sect)
		}
		for end := 65536 - 4*sect; end < 65550; end++ {
			sizeIs(t, with(of(f, load(0, 0, 9)), sec(own(2)), sec(own(end-up(front(f, 1)+9)-8))), up(end)+3*sect)
			sizeIs(t, with(of(f, load(0, 0, 9)), sec(own(end-up(front(f, 1)+9))), sec(own(0))), up(end)+3*sect)
		}
	})
}

// TestP15_1MaxFileByTheSectionHeaders holds that they are the last thing that may end there, with one of 0s ahead of them.
func TestP15_1MaxFileByTheSectionHeaders(t *testing.T) {
	each(t, func(t *testing.T, f api.Form) {
		_, _, sect := sizes(f)
		for secs := 1; secs <= 64; secs++ {
			room := 65536 - sect*(secs+1)
			for ahead := room - 17; ahead <= room+17; ahead++ {
				m := of(f, load(0, 0, ahead-front(f, 1)))
				for range secs {
					m.Secs = append(m.Secs, api.Sec{Type: api.NoBits, Size: 1 << 20, At: own(0)})
				}
				sizeIs(t, m, up(ahead)+sect*(secs+1))
			}
		}
	})
}

// TestP15_1SectionsInASegmentHaveHeaders holds that headers are laid for sections that have no bytes of their own.
func TestP15_1SectionsInASegmentHaveHeaders(t *testing.T) {
	each(t, func(t *testing.T, f api.Form) {
		_, _, sect := sizes(f)
		for n := 65536 - 3*sect - 20; n < 65540; n++ {
			m := with(of(f, load(0, 0, n-front(f, 1))), sec(in(0, 0, 1)), sec(in(0, 1, uint64(n-front(f, 1)-1))))
			sizeIs(t, m, up(n)+3*sect)
		}
	})
}

// TestP15_1BeyondByFar holds plans that end at 2^32 and 2^64, and farther on: no number wraps round.
func TestP15_1BeyondByFar(t *testing.T) {
	each(t, func(t *testing.T, f api.Form) {
		half := top(f)/2 + 1
		// The first ends at half, the second begins at the greatest number, and ends one byte behind it.
		refused(t, of(f, load(half-1, half, 1), load(top(f), half, 1)), api.ErrLarge)
		refused(t, of(f, load(half-1, half, 0), load(half-1, half, 0)), api.ErrLarge)
		refused(t, of(f, load(half-1, half, 1), load(top(f), half, 0), load(top(f), 0, 1)), api.ErrLarge)
		refused(t, of(f, load(half-1, half, 1), load(top(f), half, 1), other(own(100))), api.ErrLarge)
		refused(t, with(of(f, load(half-1, half, 1), load(top(f), half, 1)), sec(own(100))), api.ErrLarge)
		refused(t, of(f, load(half-1, half, 1), load(half, half, 1), load(half+1, half, 1)), api.ErrLarge)
		refused(t, with(of(f, load(half-1, half, 1), load(top(f)-1, half, 1)), sec(own(0)), sec(in(0, 0, 1)), sec(in(1, 0, 1))), api.ErrLarge)
		refused(t, with(of(f, load(top(f), half, 1), other(in(0, 0, 1))), sec(in(0, 0, 1))), api.ErrLarge)
	})
}

// TestP15_1BeyondByEachPower holds two places whose sum wraps round at each power of two.
func TestP15_1BeyondByEachPower(t *testing.T) {
	each(t, func(t *testing.T, f api.Form) {
		for n := 17; n < bitsOf(f); n++ {
			half := uint64(1) << n
			for down := range uint64(300) {
				m := of(f, load(half-1, half, 1), load(2*half-1-down, half, int(down+1)))
				if 2*half-1-down < half {
					t.Fatal(n, down)
				}
				refused(t, m, api.ErrLarge)
			}
		}
	})
}

// TestP15_1BeyondByBytes holds very many bytes, of one thing and of many: 2^32 bytes, and more, are no less.
func TestP15_1BeyondByBytes(t *testing.T) {
	// All share them, for they are only counted.
	all := make([]byte, 1<<26)
	place := func(n int) api.Place { return api.Place{In: -1, Size: uint64(n), Own: all[:n]} }
	each(t, func(t *testing.T, f api.Form) {
		for _, n := range []int{65537, 1 << 17, 1<<17 + 1, 1<<24 - 1, 1 << 24, 1<<26 - 400, 1<<26 - 1, 1 << 26} {
			var secs []api.Sec
			var segs, others []api.Seg
			for i := range 64 {
				secs = append(secs, sec(place(n)))
				if i < 16 && i*n < math.MaxUint32-n {
					segs = append(segs, api.Seg{Type: api.Load, Vaddr: uint64(i * n), Memsz: uint64(n), At: place(n)})
					others = append(others, other(place(n)))
				}
			}
			for _, m := range []api.Model{with(of(f), secs...), with(of(f), secs[:1]...), of(f, segs...), of(f, segs[:1]...), of(f, others...), of(f, others[:1]...)} {
				if p, err := plan.Of(m); err != api.ErrLarge || !samePlan(p, plan.Plan{}) {
					t.Error(n, len(m.Segs), len(m.Secs), p, err)
				}
			}
		}
	})
}

// TestP15_1BeyondByOneOfMany holds that one thing alone is enough, wherever it is in the list.
func TestP15_1BeyondByOneOfMany(t *testing.T) {
	each(t, func(t *testing.T, f api.Form) {
		for i := range 16 {
			m := many(f, 16, 64)
			agree(t, m)
			at := uint64(1) << (bitsOf(f) - 2)
			for k := i; k < 16; k++ {
				m.Segs[k].Vaddr = at + uint64(k)
			}
			m.Segs[i].Align = at * 2
			refused(t, m, api.ErrLarge)
			m = many(f, 16, 64)
			m.Segs[i] = other(own(65536))
			refused(t, m, api.ErrLarge)
		}
		for i := range 64 {
			m := many(f, 16, 64)
			m.Secs[i] = sec(own(65536))
			refused(t, m, api.ErrLarge)
		}
	})
}

// TestP15_1SharedBytesCountTwice holds that bytes of two places are laid twice, though they are the same memory.
func TestP15_1SharedBytesCountTwice(t *testing.T) {
	each(t, func(t *testing.T, f api.Form) {
		p := own(20000)
		m := with(of(f, other(p), other(p)), sec(p))
		x, err := plan.Of(m)
		at := uint64(up(front(f, 2)))
		if err != nil || !slices.Equal(x.Segs, []uint64{at, at + 20000}) || !slices.Equal(x.Secs, []uint64{at + 40000}) {
			t.Error(x, err)
		}
		refused(t, with(m, sec(p), sec(p)), api.ErrLarge)
	})
}
