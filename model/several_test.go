package model_test

import (
	"math"
	"testing"

	"bezant/api"
	"bezant/model"
)

// fault is one thing amiss: what it does to a model, and what is told of it.
type fault struct {
	do   func(m *api.Model)
	code api.Code
}

// crowd tells a model with segments and sections of each kind, twice, so that one fault leaves room for others.
func crowd(f api.Form) api.Model {
	load := func(at uint64) api.Seg { return api.Seg{Type: api.Load, Vaddr: at, Memsz: 8, At: own(room(4)...)} }
	table := own(0, 'a', 0)
	m := of(f, load(1000), api.Seg{Type: otherSeg, At: in(0, 0, 4)}, load(2000), load(3000), api.Seg{Type: otherSeg, At: own(1)}, load(4000))
	m.Secs = []api.Sec{
		{Type: otherSec, Size: 4, At: in(2, 0, 4)}, {Name: 1, Type: api.NoBits, Size: 9, At: own()},
		{Name: 2, Type: api.StrTab, Size: 3, At: table}, {Type: otherSec, Size: 1, At: own(1)},
	}
	m.Str = 3
	return m
}

// faults tells things that may be amiss with a crowd, in the order in which they are told, each by itself whatever others there are.
func faults(f api.Form) []fault {
	l := []fault{
		{func(m *api.Model) { m.Segs = append(m.Segs, make([]api.Seg, 17)...) }, api.ErrLarge},
		{func(m *api.Model) { m.Secs = append(m.Secs, make([]api.Sec, 65)...) }, api.ErrLarge},
	}
	if !f.Wide {
		l = append(l, fault{func(m *api.Model) { m.Entry = 1 << 32 }, api.ErrArg},
			fault{func(m *api.Model) { m.Segs[4].Paddr = 1 << 63 }, api.ErrArg},
			fault{func(m *api.Model) { m.Secs[3].Entsize = 1 << 40 }, api.ErrArg})
	}
	return append(l,
		fault{func(m *api.Model) { m.Segs[0].Align = 3 }, api.ErrAlign},
		fault{func(m *api.Model) { m.Segs[0].At.Off = 1 }, api.ErrArg},
		fault{func(m *api.Model) { m.Segs[0].Memsz = 3 }, api.ErrRange},
		fault{func(m *api.Model) { m.Segs[0].Vaddr = top(f) - 1 }, api.ErrWrap},
		fault{func(m *api.Model) { m.Segs[1].Align = 5 }, api.ErrAlign},
		fault{func(m *api.Model) { m.Segs[1].At.Off = math.MaxUint64 }, api.ErrArg},
		fault{func(m *api.Model) { m.Segs[2].Align = top(f) }, api.ErrAlign},
		fault{func(m *api.Model) { m.Segs[2].At.Size = 5 }, api.ErrArg},
		fault{func(m *api.Model) { m.Segs[2].Memsz = 2 }, api.ErrRange},
		fault{func(m *api.Model) { m.Segs[2].Vaddr = top(f) }, api.ErrWrap},
		fault{func(m *api.Model) { m.Segs[4].Align = 6 }, api.ErrAlign},
		fault{func(m *api.Model) { m.Segs[4].At.In = math.MinInt }, api.ErrArg},
		fault{func(m *api.Model) { m.Segs[5].Vaddr = 2999 }, api.ErrOrder},
		fault{func(m *api.Model) { m.Secs[0].At.Off = 1 }, api.ErrArg},
		fault{func(m *api.Model) { m.Secs[0].Link = 999 }, api.ErrLink},
		fault{func(m *api.Model) { m.Secs[1].At = own(7) }, api.ErrArg},
		fault{func(m *api.Model) { m.Secs[1].Link = math.MaxUint32 }, api.ErrLink},
		fault{func(m *api.Model) { m.Secs[3].Size = 2 }, api.ErrArg},
		fault{func(m *api.Model) { m.Secs[3].Link = 1000 }, api.ErrLink},
		fault{func(m *api.Model) { m.Str = -1 }, api.ErrLink},
		fault{func(m *api.Model) { m.Secs[2].Type = api.SymTab }, api.ErrName},
		fault{func(m *api.Model) { m.Secs[1].Name = 3 }, api.ErrName},
	)
}

// done tells a crowd with those faults.
func done(f api.Form, l []fault, which ...int) api.Model {
	m := crowd(f)
	// The lists are lengthened last, so that the faults of their elements stand where they did.
	for k := len(which) - 1; k >= 0; k-- {
		l[which[k]].do(&m)
	}
	return m
}

func TestR1OneAlone(t *testing.T) {
	each(t, func(t *testing.T, f api.Form) {
		check(t, crowd(f), nil)
		l := faults(f)
		for i := range l {
			check(t, done(f, l, i), l[i].code)
		}
	})
}

// TestR1Several holds each choice of two to four faults: the first one is told.
func TestR1Several(t *testing.T) {
	each(t, func(t *testing.T, f api.Form) {
		l := faults(f)
		hold := func(which ...int) {
			if err := model.Check(done(f, l, which...)); err != l[which[0]].code {
				t.Errorf("%v, not %v, of the faults %v", err, l[which[0]].code, which)
			}
		}
		for i := range l {
			for j := i + 1; j < len(l); j++ {
				check(t, done(f, l, i, j), l[i].code)
				for k := j + 1; k < len(l); k++ {
					hold(i, j, k)
					for n := k + 1; n < len(l); n++ {
						hold(i, j, k, n)
					}
				}
			}
		}
	})
}

// TestR1AllFromOneOn holds as many faults at once as there are.
func TestR1AllFromOneOn(t *testing.T) {
	each(t, func(t *testing.T, f api.Form) {
		l := faults(f)
		var which []int
		for i := len(l) - 1; i >= 0; i-- {
			which = append([]int{i}, which...)
			check(t, done(f, l, which...), l[i].code)
		}
	})
}

// TestR1SegmentBySegment holds that of two segments all of the first one is told ahead of anything of the second one.
func TestR1SegmentBySegment(t *testing.T) {
	each(t, func(t *testing.T, f api.Form) {
		l := []fault{
			{func(m *api.Model) { m.Segs[0].Align = 3 }, api.ErrAlign}, {func(m *api.Model) { m.Segs[0].At.Size++ }, api.ErrArg},
			{func(m *api.Model) { m.Segs[0].Memsz = 0 }, api.ErrRange}, {func(m *api.Model) { m.Segs[0].Vaddr = top(f) }, api.ErrWrap},
		}
		for i := range l {
			for k := range l {
				m := of(f, api.Seg{Type: api.Load, Memsz: 2, At: own(1)}, api.Seg{Type: api.Load, Vaddr: 9, Memsz: 2, At: own(1)})
				l[k].do(&m)
				m.Segs[0], m.Segs[1] = m.Segs[1], m.Segs[0]
				l[i].do(&m)
				check(t, m, l[i].code)
			}
		}
	})
}

// TestR1SectionBySection holds that of two sections both things of the first one are told ahead of those of the second one.
func TestR1SectionBySection(t *testing.T) {
	each(t, func(t *testing.T, f api.Form) {
		m := crowd(f)
		m.Secs[0].Link = 9
		m.Secs[1].At = own(1)
		check(t, m, api.ErrLink)
		m = crowd(f)
		m.Secs[0].At.Size--
		m.Secs[1].Link = 9
		check(t, m, api.ErrArg)
		m.Secs[0].Link = 9
		check(t, m, api.ErrArg)
	})
}

// TestR1WrapAheadOfOrder holds that an order is told only of segments that don't wrap.
func TestR1WrapAheadOfOrder(t *testing.T) {
	each(t, func(t *testing.T, f api.Form) {
		m := of(f, api.Seg{Type: api.Load, Vaddr: 9, Memsz: 2, At: own()}, api.Seg{Type: api.Load, Vaddr: 8, Memsz: 2, At: own()},
			api.Seg{Type: api.Load, Vaddr: 20, Memsz: top(f) - 18, At: own()})
		check(t, m, api.ErrWrap)
		m.Segs[2].Memsz--
		check(t, m, api.ErrOrder)
	})
}

// smallPlaces tells places of which some may be, in a model of two segments.
func smallPlaces() []api.Place {
	var l []api.Place
	for _, i := range []int{-2, -1, 0, 1, 2} {
		for _, off := range []uint64{0, 1, math.MaxUint64} {
			for _, size := range []uint64{0, 1, 2, 3} {
				for _, n := range []int{0, 2} {
					l = append(l, api.Place{In: i, Off: off, Size: size, Own: room(n)})
				}
			}
		}
	}
	return l
}

// TestP14_1SmallPlaces holds each choice of two segments' places and Types against the reference.
func TestP14_1SmallPlaces(t *testing.T) {
	each(t, func(t *testing.T, f api.Form) {
		l := smallPlaces()
		for _, a := range l {
			for _, b := range l {
				for kinds := range uint32(4) {
					m := of(f, api.Seg{Type: kinds & 1, Memsz: 2, At: a}, api.Seg{Type: kinds >> 1, Vaddr: 2, Memsz: 1, At: b})
					agree(t, m)
				}
			}
		}
	})
}

// TestP14_1SmallSections holds sections of each kind at each of those places against the reference.
func TestP14_1SmallSections(t *testing.T) {
	each(t, func(t *testing.T, f api.Form) {
		for _, p := range smallPlaces() {
			for _, kind := range []uint32{api.Null, otherSec, api.StrTab, api.NoBits} {
				for size := range uint64(4) {
					for link := range uint32(4) {
						for str := range 4 {
							m := of(f, api.Seg{Type: otherSeg, At: own()}, api.Seg{Type: api.Load, Memsz: 2, At: own(0, 1)})
							m.Secs = []api.Sec{{Type: kind, Size: size, Link: link, At: p}, {Type: api.StrTab, Size: 2, At: own(1, 0)}}
							m.Str = str - 1
							agree(t, m)
						}
					}
				}
			}
		}
	})
}
