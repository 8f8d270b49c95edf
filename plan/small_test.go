package plan_test

import (
	"testing"

	"bezant/api"
	"bezant/plan"
)

// smallSegs tells kinds of segments for a place in a list; those of Type Load rise.
func smallSegs(at int) []api.Seg {
	v := uint64(100 * at)
	return []api.Seg{
		load(v, 0, 0), load(v+3, 1, 3), load(v+5, 16, 5), load(v+7, 64, 0), load(v+96, 32, 8), load(v+40, 4096, 1),
		other(own(0)), other(own(3)), other(own(8)), other(own(9)),
		other(in(0, 0, 1)), other(in(1, 2, 1)), other(in(2, 1, 2)),
	}
}

// smallSecs tells kinds of sections.
func smallSecs() []api.Sec {
	return []api.Sec{
		sec(own(0)), sec(own(5)), sec(own(8)), sec(own(9)), {Type: api.NoBits, Size: 7, At: own(0)}, {Size: 3, At: own(0)},
		sec(in(0, 1, 2)), sec(in(1, 0, 1)), sec(in(2, 4, 1)),
	}
}

// lists tells all lists of up to most elements, each of what kinds tells for its place.
func lists[T any](most int, kinds func(at int) []T) [][]T {
	all, last := [][]T{nil}, [][]T{nil}
	for at := range most {
		var longer [][]T
		for _, l := range last {
			for _, x := range kinds(at) {
				longer = append(longer, append(l[:len(l):len(l)], x))
			}
		}
		all, last = append(all, longer...), longer
	}
	return all
}

// TestP15_1SmallModels holds each list of up to three segments, with each list of up to two sections, against the reference.
func TestP15_1SmallModels(t *testing.T) {
	secs := lists(2, func(int) []api.Sec { return smallSecs() })
	segs := lists(3, smallSegs)
	each(t, func(t *testing.T, f api.Form) {
		for _, l := range segs {
			for _, x := range secs {
				agreeSmall(t, with(of(f, l...), x...))
			}
		}
	})
}

// TestP15_1FourSegments holds each list of four segments of fewer kinds.
func TestP15_1FourSegments(t *testing.T) {
	segs := lists(4, func(at int) []api.Seg {
		l := smallSegs(at)
		return append(l[1:4:4], l[7], l[8], l[10], l[12])
	})
	each(t, func(t *testing.T, f api.Form) {
		for _, l := range segs {
			agreeSmall(t, of(f, l...))
			agreeSmall(t, with(of(f, l...), smallSecs()[1], smallSecs()[6]))
		}
	})
}

// agreeSmall holds what Of answers against the reference; P15.3 by numbers alone, for there are very many models.
func agreeSmall(t *testing.T, m api.Model) {
	t.Helper()
	want, wrong := reference(m)
	p, err := plan.Of(m)
	if err != wrong || !samePlan(p, want) {
		t.Errorf("Of tells %+v, %v, not %+v, %v, of %s", p, err, want, wrong, brief(m))
	}
	if err == nil {
		apart(t, m, p)
	}
}

// stretch is what a thing has of a file.
type stretch struct{ from, size uint64 }

// apart holds that no two things have a byte in common, but for what has its place in a segment, and that loaded bytes are where Vaddr asks.
func apart(t *testing.T, m api.Model, p plan.Plan) {
	t.Helper()
	header, prog, sect := sizes(m.Ident.Form)
	l := []stretch{{0, uint64(header)}, {p.Phoff, uint64(prog * len(m.Segs))}}
	if len(m.Secs) > 0 {
		l = append(l, stretch{p.Shoff, uint64(sect * (len(m.Secs) + 1))})
	}
	for i, s := range m.Segs {
		if s.At.In == -1 {
			l = append(l, stretch{p.Segs[i], s.At.Size})
		}
		if s.Type == api.Load && s.Align > 1 && p.Segs[i]%s.Align != s.Vaddr%s.Align {
			t.Errorf("%d isn't like %d modulo %d", p.Segs[i], s.Vaddr, s.Align)
		}
	}
	for i, s := range m.Secs {
		if s.At.In == -1 {
			l = append(l, stretch{p.Secs[i], s.At.Size})
		}
	}
	end := uint64(0)
	for k, b := range l {
		end = max(end, b.from+b.size)
		for _, a := range l[:k] {
			if a.size > 0 && b.size > 0 && a.from < b.from+b.size && b.from < a.from+a.size {
				t.Errorf("%+v and %+v have bytes in common, of %s", a, b, brief(m))
			}
		}
	}
	if end != p.Size || end > 65536 {
		t.Errorf("%d bytes, not %d, of %s", p.Size, end, brief(m))
	}
}

// TestP15_3OrdinaryStandsApart holds P15.3 of the models that other tests count by hand.
func TestP15_3OrdinaryStandsApart(t *testing.T) {
	each(t, func(t *testing.T, f api.Form) {
		for _, m := range planned(f) {
			p, err := plan.Of(m)
			if err != nil {
				t.Fatal(err)
			}
			stands(t, m, p)
			apart(t, m, p)
		}
	})
}

// TestP15_3EachByteHasOneOwner holds, of places full of bytes, how many bytes of a file are nobody's: what is laid to a multiple of 8.
func TestP15_3EachByteHasOneOwner(t *testing.T) {
	each(t, func(t *testing.T, f api.Form) {
		for n := range 17 {
			m := of(f, load(0, 0, n), load(100, 0, n), other(own(n)), other(in(1, 0, 1)), other(own(n)))
			if n == 0 {
				m.Segs[3].At = own(0)
			}
			m = with(m, sec(own(n)), sec(own(n)))
			p, err := plan.Of(m)
			if err != nil {
				t.Fatal(err)
			}
			stands(t, m, p)
			_, _, sect := sizes(f)
			loaded := front(f, 5) + 2*n
			if want := up(loaded) + 4*up(n) + 3*sect; p.Size != uint64(want) {
				t.Error(n, p, want)
			}
		}
	})
}

// TestP15_3AlikeModuloAlign holds each Align with each small Vaddr, of the first and of the last of several loaded segments.
func TestP15_3AlikeModuloAlign(t *testing.T) {
	each(t, func(t *testing.T, f api.Form) {
		for n := range 16 {
			align := uint64(1) << n
			for v := uint64(0); v < 2*align; v += align/32 + 1 {
				m := of(f, load(v, align, 5), load(v+5, 0, 4), load(v+4*align+9, align, 3))
				p, err := plan.Of(m)
				if err == api.ErrLarge {
					refused(t, m, api.ErrLarge)
					continue
				}
				if err != nil || p.Segs[0]%align != v%align || p.Segs[2]%align != (v+9)%align {
					t.Error(v, align, p, err)
				}
				stands(t, m, p)
			}
		}
	})
}
