package plan_test

import (
	"math"
	"testing"

	"bezant/api"
	"bezant/plan"
)

// fault is one thing amiss: what it does to a model, and what is told of it.
type fault struct {
	what string
	do   func(m *api.Model)
	code api.Code
}

// crowd tells a model with segments and sections of each kind, so that one fault leaves room for others.
func crowd(f api.Form) api.Model {
	m := of(f, load(1000, 16, 4), other(in(0, 0, 4)), load(2000, 8, 4), load(3000, 0, 4), other(own(1)))
	m.Secs = []api.Sec{
		sec(in(2, 0, 4)), {Name: 1, Type: api.NoBits, Size: 9, At: own(0)},
		{Name: 2, Type: api.StrTab, Size: 3, At: api.Place{In: -1, Size: 3, Own: []byte{0, 'a', 0}}}, sec(own(1)),
	}
	m.Str = 3
	return m
}

// faults tells what layer 14 tells of a crowd, in its order.
func faults(f api.Form) []fault {
	l := []fault{
		{"17 segments", func(m *api.Model) { m.Segs = append(m.Segs, make([]api.Seg, 12)...) }, api.ErrLarge},
		{"65 sections", func(m *api.Model) { m.Secs = append(m.Secs, make([]api.Sec, 61)...) }, api.ErrLarge},
	}
	if !f.Wide {
		l = append(l, fault{"an Entry of 33 bits", func(m *api.Model) { m.Entry = 1 << 32 }, api.ErrArg},
			fault{"an Align of 33 bits", func(m *api.Model) { m.Segs[4].Align = 1 << 32 }, api.ErrArg},
			fault{"an Addr of 64 bits", func(m *api.Model) { m.Secs[3].Addr = 1 << 63 }, api.ErrArg})
	}
	return append(l,
		fault{"an Align of 3", func(m *api.Model) { m.Segs[0].Align = 3 }, api.ErrAlign},
		fault{"a place from 1 on", func(m *api.Model) { m.Segs[0].At.Off = 1 }, api.ErrArg},
		fault{"a place of too few bytes", func(m *api.Model) { m.Segs[1].At.Size = 0 }, api.ErrArg},
		fault{"a place of too many bytes", func(m *api.Model) { m.Segs[2].At.Size = 5 }, api.ErrArg},
		fault{"less memory than bytes", func(m *api.Model) { m.Segs[2].Memsz = 3 }, api.ErrRange},
		fault{"memory beyond the last address", func(m *api.Model) { m.Segs[2].Vaddr = top(f) - 2 }, api.ErrWrap},
		fault{"a place in no segment", func(m *api.Model) { m.Segs[4].At.In = 99 }, api.ErrArg},
		fault{"another place in no segment", func(m *api.Model) { m.Segs[4].At.In = math.MinInt }, api.ErrArg},
		fault{"segments that fall", func(m *api.Model) { m.Segs[3].Vaddr = 999 }, api.ErrOrder},
		fault{"a section beyond a segment", func(m *api.Model) { m.Secs[0].At.Off = math.MaxUint64 }, api.ErrArg},
		fault{"a section in no segment", func(m *api.Model) { m.Secs[0].At.In = math.MaxInt }, api.ErrArg},
		fault{"a Link of 99", func(m *api.Model) { m.Secs[0].Link = 99 }, api.ErrLink},
		fault{"a NoBits of bytes", func(m *api.Model) { m.Secs[1].At = own(7) }, api.ErrArg},
		fault{"a Size beside the bytes", func(m *api.Model) { m.Secs[3].Size = 2 }, api.ErrArg},
		fault{"a Str of 99", func(m *api.Model) { m.Str = 99 }, api.ErrLink},
		fault{"a Str below 0", func(m *api.Model) { m.Str = math.MinInt }, api.ErrLink},
		fault{"names in no table", func(m *api.Model) { m.Secs[2].Type = api.SymTab }, api.ErrName},
		fault{"no name", func(m *api.Model) { m.Secs[3].Name = 3 }, api.ErrName},
	)
}

// larges tells what makes a crowd's plan end beyond MaxFile, and stands in no fault's way.
func larges(f api.Form) []fault {
	addSeg := func(s api.Seg) func(m *api.Model) {
		return func(m *api.Model) { m.Segs = append(m.Segs, s) }
	}
	half := top(f)/2 + 1
	return []fault{
		{"bytes of a segment", addSeg(other(own(65536))), api.ErrLarge},
		{"bytes of a loaded segment", addSeg(load(4000, 0, 65536)), api.ErrLarge},
		{"an Align", addSeg(load(half-1, half, 1)), api.ErrLarge},
		{"the greatest Vaddr", addSeg(load(top(f), half, 1)), api.ErrLarge},
		{"bytes of a section", func(m *api.Model) { m.Secs = append(m.Secs, sec(own(65536))) }, api.ErrLarge},
	}
}

// wrong holds what is told instead of a plan, and that no plan is told beside it.
func wrong(t *testing.T, m api.Model, want api.Code, what ...string) {
	t.Helper()
	p, err := plan.Of(m)
	if err != want {
		t.Errorf("%v, not %v: %q", err, want, what)
	}
	if p.Phoff != 0 || p.Shoff != 0 || p.Size != 0 || len(p.Segs) != 0 || len(p.Secs) != 0 {
		t.Errorf("%+v: %q", p, what)
	}
}

// TestP15_1EachErrorOfLayer14 holds each of its errors alone, as the Code itself.
func TestP15_1EachErrorOfLayer14(t *testing.T) {
	each(t, func(t *testing.T, f api.Form) {
		agree(t, crowd(f))
		if _, err := plan.Of(crowd(f)); err != nil {
			t.Fatal(err)
		}
		told := map[api.Code]bool{}
		for _, x := range faults(f) {
			m := crowd(f)
			x.do(&m)
			wrong(t, m, x.code, x.what)
			told[x.code] = true
		}
		for _, code := range []api.Code{api.ErrLarge, api.ErrArg, api.ErrAlign, api.ErrRange, api.ErrWrap, api.ErrOrder, api.ErrLink, api.ErrName} {
			if !told[code] {
				t.Error("never told:", code)
			}
		}
	})
}

// TestP15_1TooLargeAlone holds that without them it is ErrLarge.
func TestP15_1TooLargeAlone(t *testing.T) {
	each(t, func(t *testing.T, f api.Form) {
		for _, x := range larges(f) {
			m := crowd(f)
			x.do(&m)
			wrong(t, m, api.ErrLarge, x.what)
			refused(t, m, api.ErrLarge)
		}
	})
}

// TestR1Layer14AheadOfLarge holds that layer 14's error is told of a plan that ends beyond MaxFile, too, by one thing or by all of them.
func TestR1Layer14AheadOfLarge(t *testing.T) {
	each(t, func(t *testing.T, f api.Form) {
		for _, x := range faults(f) {
			all := crowd(f)
			x.do(&all)
			for _, large := range larges(f) {
				m := crowd(f)
				x.do(&m)
				large.do(&m)
				wrong(t, m, x.code, x.what, large.what)
				agree(t, m)
				large.do(&all)
				wrong(t, all, x.code, x.what, "up to", large.what)
				agree(t, all)
			}
		}
	})
}

// TestR1TwoOfLayer14 holds that of two faults the one is told that layer 14 tells, with a plan that may be and with one that may not.
func TestR1TwoOfLayer14(t *testing.T) {
	each(t, func(t *testing.T, f api.Form) {
		l := faults(f)
		for i := range l {
			for k := i + 1; k < len(l); k++ {
				m := crowd(f)
				l[k].do(&m)
				l[i].do(&m)
				agree(t, m)
				if _, err := plan.Of(m); err == nil {
					t.Error("a plan is told:", l[i].what, l[k].what)
				}
				for _, large := range larges(f) {
					large.do(&m)
					agree(t, m)
				}
			}
		}
	})
}

// TestR3NoPlanBesideAnError holds the zero value beside each kind of error, of models with much in them.
func TestR3NoPlanBesideAnError(t *testing.T) {
	each(t, func(t *testing.T, f api.Form) {
		wrong(t, many(f, 17, 0), api.ErrLarge)
		wrong(t, many(f, 0, 65), api.ErrLarge)
		wrong(t, many(f, 17, 65), api.ErrLarge)
		wrong(t, many(f, 100000, 100000), api.ErrLarge)
		m := many(f, 16, 64)
		m.Str = 65
		wrong(t, m, api.ErrLink)
		m = many(f, 16, 64)
		m.Secs[63] = sec(own(1 << 16))
		wrong(t, m, api.ErrLarge)
		if !f.Wide {
			wrong(t, api.Model{Ident: api.Ident{Form: f}, Entry: 1 << 32}, api.ErrArg)
		}
	})
}

// TestP1OddModels holds that whatever a model has, the call ends, and tells a plan or an error.
func TestP1OddModels(t *testing.T) {
	odd := []uint64{0, 1, 3, 84, 120, 65535, 65536, 1 << 31, math.MaxUint32, 1 << 63, math.MaxUint64}
	each(t, func(t *testing.T, f api.Form) {
		for _, i := range []int{math.MinInt, -2, -1, 0, 1, 2, math.MaxInt} {
			for _, off := range odd {
				for _, size := range odd {
					p := api.Place{In: i, Off: off, Size: size}
					q := api.Place{In: i, Off: off, Size: size, Own: make([]byte, 3)}
					for _, at := range []api.Place{p, q} {
						for kind := range uint32(3) {
							s := api.Seg{Type: kind, Vaddr: off, Paddr: size, Memsz: size, Align: off, At: at}
							m := with(of(f, s, load(5, 0, 3), s), api.Sec{Type: kind, Size: size, At: at})
							agree(t, m)
							m.Segs = m.Segs[1:]
							agree(t, m)
							m.Segs = nil
							agree(t, m)
						}
					}
				}
			}
		}
	})
}
