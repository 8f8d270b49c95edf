package plan_test

import (
	"slices"
	"testing"

	"bezant/api"
	"bezant/plan"
)

// likes tells numbers that are like v modulo 2^n, at both ends of a class's numbers, and around its middle.
func likes(f api.Form, v uint64, n int) []uint64 {
	step := uint64(1) << n
	low, high := v%step, top(f)-(step-1)+v%step
	l := []uint64{low, high, top(f)/2 - top(f)/2%step + low}
	for k := range uint64(6) {
		if k <= (high-low)>>n {
			l = append(l, low+k<<n, high-k<<n)
		}
	}
	if v <= top(f) {
		l = append(l, v)
	}
	return l
}

// begins holds where the last segment's bytes begin, if the file ends at MaxFile at most, and else that it is too large.
func begins(t *testing.T, m api.Model, at uint64) {
	t.Helper()
	end := at + m.Segs[len(m.Segs)-1].At.Size
	if len(m.Segs) > countLoaded(m) {
		// The others here have no bytes, and are laid behind.
		end = (end + 7) / 8 * 8
	}
	if end > 65536 {
		refused(t, m, api.ErrLarge)
		return
	}
	p, err := plan.Of(m)
	if err != nil || p.Segs[len(m.Segs)-1] != at || p.Size != end {
		t.Errorf("Of tells %+v, %v, not that it begins at %d, of %s", p, err, at, brief(m))
	}
	agree(t, m)
}

// moved tells what Align moves a place to, if Vaddr is like one that is by further on: 0, or one.
func moved(at int, by int, align uint64) uint64 {
	v := uint64(at)
	switch {
	case by == 0 || align <= 1:
		return v
	case by > 0:
		return v + 1
	}
	return v + align - 1
}

// behind tells a model whose last segment is this one, behind so many that aren't loaded and have no bytes.
func behind(f api.Form, ahead int, s api.Seg) api.Model {
	m := of(f)
	for range ahead {
		m.Segs = append(m.Segs, other(own(0)))
	}
	m.Segs = append(m.Segs, s)
	return m
}

// TestP15_1EachAlign holds each power of two, and Vaddr alike where the one ahead ends, one less, and one more, below that place and above it.
func TestP15_1EachAlign(t *testing.T) {
	each(t, func(t *testing.T, f api.Form) {
		for n := range bitsOf(f) {
			for ahead := range 16 {
				at := front(f, ahead+1)
				for by := -1; by <= 1; by++ {
					want := moved(at, by, 1<<n)
					for _, v := range likes(f, uint64(at+by), n) {
						begins(t, behind(f, ahead, load(v, 1<<n, 0)), want)
						if v < top(f) {
							begins(t, behind(f, ahead, load(v, 1<<n, 1)), want)
						}
					}
				}
			}
		}
	})
}

// TestP15_1AlignOf0And1 holds that neither moves anything, wherever Vaddr is.
func TestP15_1AlignOf0And1(t *testing.T) {
	each(t, func(t *testing.T, f api.Form) {
		for _, align := range []uint64{0, 1} {
			for v := range uint64(200) {
				begins(t, of(f, load(v, align, 3)), uint64(front(f, 1)))
				begins(t, of(f, load(top(f)-v-3, align, 3)), uint64(front(f, 1)))
			}
			m := of(f, load(7, align, 3), load(100, align, 0), load(100, align, 5), load(999, align, 1))
			at := uint64(front(f, 4))
			p, err := plan.Of(m)
			if err != nil || !slices.Equal(p.Segs, []uint64{at, at + 3, at + 3, at + 8}) || p.Size != at+9 {
				t.Error(p, err)
			}
			agree(t, m)
		}
	})
}

// TestP15_1EachVaddr holds all small Vaddrs of all small Aligns, by a look at one place after the other.
func TestP15_1EachVaddr(t *testing.T) {
	each(t, func(t *testing.T, f api.Form) {
		for n := range 10 {
			for v := range uint64(1100) {
				at := uint64(front(f, 1))
				for at&(1<<n-1) != v&(1<<n-1) {
					at++
				}
				begins(t, of(f, load(v, 1<<n, 1)), at)
			}
		}
	})
}

// TestP15_1AlignBehindAnother holds each of those behind a loaded segment of any number of bytes, with Vaddr below its end and above it.
func TestP15_1AlignBehindAnother(t *testing.T) {
	each(t, func(t *testing.T, f api.Form) {
		for n := range bitsOf(f) {
			for bytes := range 18 {
				for by := -1; by <= 1; by++ {
					at := front(f, 2) + bytes
					for _, v := range likes(f, uint64(at+by), n) {
						if v < uint64(bytes) || v == top(f) {
							continue
						}
						begins(t, of(f, load(0, 1, bytes), load(v, 1<<n, 1)), moved(at, by, 1<<n))
					}
				}
			}
		}
	})
}

// TestP15_1VaddrBelowItsPlace holds a Vaddr that is less than where the one ahead ends, with each small Align.
func TestP15_1VaddrBelowItsPlace(t *testing.T) {
	each(t, func(t *testing.T, f api.Form) {
		for n := range 9 {
			for below := range 40 {
				at := front(f, 2) + 200
				want := uint64(at)
				for want&(1<<n-1) != uint64(at-below)&(1<<n-1) {
					want++
				}
				begins(t, of(f, load(3, 1, 200), load(uint64(at-below), 1<<n, 4)), want)
			}
		}
	})
}

// TestP15_1AlignGreaterThanAFile holds Vaddrs that are, modulo it, below where the one ahead ends, there, behind it, and beyond.
func TestP15_1AlignGreaterThanAFile(t *testing.T) {
	each(t, func(t *testing.T, f api.Form) {
		at := uint64(front(f, 1))
		for n := 16; n < bitsOf(f); n++ {
			step := uint64(1) << n
			for _, v := range []uint64{0, 1, at - 1, at, at + 1, 4096, 65534, 65535, 65536, 65537, step/2 + at, step - 2, step - 1} {
				want := v % step
				if want < at {
					want += step
				}
				for _, like := range likes(f, v, n) {
					for size := range uint64(4) {
						if like <= top(f)-size {
							begins(t, of(f, load(like, step, int(size))), want)
						}
					}
				}
			}
		}
	})
}

// TestP15_1AlignOfMaxFile holds places at the end of the file by hand.
func TestP15_1AlignOfMaxFile(t *testing.T) {
	each(t, func(t *testing.T, f api.Form) {
		at := uint64(front(f, 1))
		header, _, _ := sizes(f)
		end := plan.Plan{Phoff: uint64(header), Size: 65536, Segs: []uint64{65536}}
		check(t, of(f, load(0, 65536, 0)), end)
		check(t, of(f, load(65536, 1<<17, 0)), end)
		check(t, of(f, load(1<<31, 65536, 0)), end)
		refused(t, of(f, load(0, 65536, 1)), api.ErrLarge)
		refused(t, of(f, load(1, 65536, 0)), api.ErrLarge)
		refused(t, of(f, load(at-1, 65536, 0)), api.ErrLarge)
		refused(t, of(f, load(0, 1<<17, 0)), api.ErrLarge)
		refused(t, of(f, load(65537, 1<<17, 0)), api.ErrLarge)
		end.Segs = []uint64{65535}
		check(t, of(f, load(65535, 65536, 1)), end)
		refused(t, of(f, load(65535, 65536, 2)), api.ErrLarge)
		end.Size = 65535
		check(t, of(f, load(65535, 65536, 0)), end)
		check(t, of(f, load(65535+1<<16, 1<<16, 0)), end)
		check(t, of(f, load(at, 1<<(bitsOf(f)-1), 9)), plan.Plan{Phoff: uint64(header), Size: at + 9, Segs: []uint64{at}})
	})
}

// TestP15_1GreatestVaddr holds the last addresses of a class, with each Align.
func TestP15_1GreatestVaddr(t *testing.T) {
	each(t, func(t *testing.T, f api.Form) {
		at := uint64(front(f, 1))
		for n := range bitsOf(f) {
			step := uint64(1) << n
			for down := range uint64(9) {
				for size := range down + 2 {
					want := at + (top(f)-down-at)&(step-1)
					begins(t, of(f, load(top(f)-down, step, int(size))), want)
				}
			}
		}
		begins(t, of(f, load(top(f), 0, 0)), at)
		begins(t, of(f, load(top(f), 0, 1)), at)
		begins(t, of(f, load(top(f), 256, 1)), 255)
		begins(t, of(f, load(top(f), 65536, 1)), 65535)
		begins(t, of(f, load(top(f), 1<<(bitsOf(f)-1), 1)), top(f)/2)
	})
}

// TestP15_1MemszHasNoSay holds that memory behind a segment's bytes has no room in the file.
func TestP15_1MemszHasNoSay(t *testing.T) {
	each(t, func(t *testing.T, f api.Form) {
		for _, size := range []uint64{5, 6, 8, 4096, 65536, 1 << 31, top(f) - 4096} {
			a, b := load(64, 64, 5), load(top(f)-7, 8, 8)
			a.Memsz = min(size, top(f)-7-64)
			at := uint64(front(f, 2)+63) / 64 * 64
			m := of(f, a, b)
			p, err := plan.Of(m)
			if err != nil || !slices.Equal(p.Segs, []uint64{at, at + 8}) || p.Size != at+16 {
				t.Error(p, err)
			}
			agree(t, m)
		}
	})
}

// TestP15_1AlignOfOthers holds that only segments of Type Load are laid by their own Align.
func TestP15_1AlignOfOthers(t *testing.T) {
	each(t, func(t *testing.T, f api.Form) {
		for n := range bitsOf(f) {
			for _, v := range []uint64{0, 1, 3, 4096, top(f)} {
				s := api.Seg{Type: otherSeg, Vaddr: v, Paddr: v, Memsz: v, Align: 1 << n, At: own(5)}
				x := api.Sec{Type: otherSec, Size: 3, Addr: v, Align: 1 << n, At: own(3)}
				at := up(front(f, 1))
				_, _, sect := sizes(f)
				m := with(of(f, s), x)
				sizeIs(t, m, at+16+2*sect)
				p, err := plan.Of(m)
				if err != nil || p.Segs[0] != uint64(at) || p.Secs[0] != uint64(at+8) {
					t.Error(p, err)
				}
			}
		}
	})
}

// TestP15_1AlignsOfMany holds that each segment is laid by its own Vaddr and Align, behind the one ahead.
func TestP15_1AlignsOfMany(t *testing.T) {
	each(t, func(t *testing.T, f api.Form) {
		m := of(f)
		var want []uint64
		at := uint64(front(f, 16))
		for i := range uint64(16) {
			v, align := 1000*i+7*i, uint64(1)<<(i%10)
			m.Segs = append(m.Segs, load(v, align, int(i)))
			for (at-v)%align != 0 {
				at++
			}
			want = append(want, at)
			at += i
		}
		p, err := plan.Of(m)
		if err != nil || !slices.Equal(p.Segs, want) || p.Size != at {
			t.Error(p, err, want)
		}
		agree(t, m)
	})
}
