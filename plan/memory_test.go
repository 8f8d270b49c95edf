package plan_test

import (
	"bytes"
	"slices"
	"testing"

	"bezant/api"
	"bezant/model"
	"bezant/plan"
)

// spoil fills a list, and the room behind it.
func spoil(l []uint64) {
	l = l[:cap(l)]
	for i := range l {
		l[i] = 0xeeeeeeeeeeeeeeee
	}
}

// planned tells models whose plan may be, new each time.
func planned(f api.Form) []api.Model {
	return []api.Model{of(f), ordinary(f), crowd(f), many(f, 16, 64), many(f, 1, 0), many(f, 0, 1), many(f, 7, 7), many(f, 16, 16)}
}

// TestP15_2NewMemory holds that no two answers share memory, nor do they with what was handed in.
func TestP15_2NewMemory(t *testing.T) {
	each(t, func(t *testing.T, f api.Form) {
		for i, m := range planned(f) {
			a, err := plan.Of(m)
			b, wrong := plan.Of(m)
			if err != nil || wrong != nil {
				t.Fatal(err, wrong)
			}
			spoil(a.Segs)
			spoil(a.Secs)
			if want, _ := reference(m); !samePlan(b, want) {
				t.Error("two answers share memory", i)
			}
			if !model.Same(m, planned(f)[i]) {
				t.Error("what was handed in is spoilt", i)
			}
			agree(t, m)
		}
	})
}

// TestP15_2ListsAreApart holds that the two lists of one answer share no memory.
func TestP15_2ListsAreApart(t *testing.T) {
	each(t, func(t *testing.T, f api.Form) {
		for _, m := range planned(f) {
			want, _ := reference(m)
			p, _ := plan.Of(m)
			spoil(p.Segs)
			if !slices.Equal(p.Secs, want.Secs) {
				t.Error("Secs have memory of Segs")
			}
			p, _ = plan.Of(m)
			spoil(p.Secs)
			if !slices.Equal(p.Segs, want.Segs) {
				t.Error("Segs have memory of Secs")
			}
		}
	})
}

// TestR2NothingIsChanged holds that a model is as it was, also where no plan is told.
func TestR2NothingIsChanged(t *testing.T) {
	each(t, func(t *testing.T, f api.Form) {
		all := planned(f)
		for _, x := range append(faults(f), larges(f)...) {
			m := crowd(f)
			x.do(&m)
			all = append(all, m)
		}
		for i, m := range all {
			was := clone(m)
			plan.Of(m)
			plan.Of(m)
			if !model.Same(m, was) {
				t.Error("what was handed in is changed", i)
			}
		}
	})
}

// TestR2RoomBehind holds that the room behind lists and bytes is neither changed nor looked at.
func TestR2RoomBehind(t *testing.T) {
	each(t, func(t *testing.T, f api.Form) {
		b := bytes.Repeat([]byte{0xaa}, 70000)
		m := ordinary(f)
		segs := append(slices.Clone(m.Segs), make([]api.Seg, 30)...)
		secs := append(slices.Clone(m.Secs), make([]api.Sec, 90)...)
		segs[1].At.Own, secs[4].At.Own = b[:10], b[20:29]
		segs[6] = api.Seg{Type: api.Load, Align: 3, At: own(9)}
		m.Segs, m.Secs = segs[:6], secs[:5]
		p, err := plan.Of(m)
		if err != nil || !samePlan(p, ordinaryPlan(f)) {
			t.Error(p, err)
		}
		if segs[6].Align != 3 || len(segs[6].At.Own) != 9 || secs[5].At.Own != nil || !bytes.Equal(b, bytes.Repeat([]byte{0xaa}, 70000)) {
			t.Error("room behind is changed")
		}
	})
}

// TestR2NothingIsKept holds that an answer hangs on what was handed in alone, whatever was ahead, and stays as it was told.
func TestR2NothingIsKept(t *testing.T) {
	var told []plan.Plan
	var all []api.Model
	for _, f := range forms() {
		for _, m := range planned(f) {
			p, err := plan.Of(m)
			if err != nil {
				t.Fatal(err)
			}
			told, all = append(told, p), append(all, m)
			for _, x := range append(faults(f), larges(f)...) {
				n := crowd(f)
				x.do(&n)
				plan.Of(n)
			}
		}
	}
	for i, m := range all {
		want, _ := reference(m)
		p, err := plan.Of(m)
		if err != nil || !samePlan(p, want) || !samePlan(told[i], want) {
			t.Error(i, p, err, told[i], want)
		}
	}
}

// TestR2WhatWasToldStays holds that a plan doesn't follow a model that is changed behind it.
func TestR2WhatWasToldStays(t *testing.T) {
	each(t, func(t *testing.T, f api.Form) {
		m := ordinary(f)
		p, err := plan.Of(m)
		if err != nil {
			t.Fatal(err)
		}
		for i := range m.Segs {
			clear(m.Segs[i].At.Own)
			m.Segs[i] = api.Seg{Vaddr: 99}
		}
		for i := range m.Secs {
			clear(m.Secs[i].At.Own)
			m.Secs[i] = api.Sec{Addr: 99}
		}
		if !samePlan(p, ordinaryPlan(f)) {
			t.Error(p)
		}
	})
}

// TestP15_1BytesHaveNoSay holds that how many bytes there are matters, and not which ones.
func TestP15_1BytesHaveNoSay(t *testing.T) {
	each(t, func(t *testing.T, f api.Form) {
		for v := range 256 {
			m := ordinary(f)
			for i := range m.Segs {
				copy(m.Segs[i].At.Own, bytes.Repeat([]byte{byte(v)}, 100))
			}
			copy(m.Secs[4].At.Own, bytes.Repeat([]byte{byte(v)}, 100))
			p, err := plan.Of(m)
			if err != nil || !samePlan(p, ordinaryPlan(f)) {
				t.Error(v, p, err)
			}
		}
	})
}
