package file_test

import (
	"bytes"
	"testing"

	"bezant/api"
	"bezant/file"
	"bezant/model"
)

// comesBack holds T1 of a model that may be, and whose plan may be.
func comesBack(t *testing.T, m api.Model) {
	t.Helper()
	b, err := file.Encode(m)
	if err != nil {
		t.Errorf("%v, of %s", err, brief(m))
		return
	}
	x, err := file.Parse(b)
	if err != nil || !model.Same(x, m) {
		t.Errorf("%s, %v, of %s", brief(x), err, brief(m))
	}
	if len(b) == 65536 {
		return
	}
	// Bytes behind it have no say.
	x, err = file.Parse(append(bytes.Clone(b), fill(min(65536-len(b), 77), 7)...))
	if err != nil || !model.Same(x, m) {
		t.Errorf("with bytes behind: %s, %v, of %s", brief(x), err, brief(m))
	}
}

func TestT1Models(t *testing.T) {
	each(t, func(t *testing.T, f api.Form) {
		for _, m := range append(models(f), small(f)) {
			comesBack(t, m)
			reads(t, lay(t, m).b, m)
		}
	})
}

// TestT1HowMany holds each number of segments, and of sections, up to as many as there may be.
func TestT1HowMany(t *testing.T) {
	each(t, func(t *testing.T, f api.Form) {
		for segs := range 17 {
			for secs := range 65 {
				comesBack(t, many(f, segs, secs))
			}
		}
	})
}

// TestT1Str holds each section as Str, and none.
func TestT1Str(t *testing.T) {
	each(t, func(t *testing.T, f api.Form) {
		for str := range 65 {
			m := many(f, 2, 64)
			if str > 0 {
				m.Secs[str-1] = api.Sec{Name: 2, Type: api.StrTab, Size: 4, Link: uint32(str), At: text("\x00ab\x00")}
				m.Secs[64-str].Name = 3
			}
			m.Str = str
			comesBack(t, m)
		}
	})
}

// TestT1EachByte holds that bytes of a place may be any.
func TestT1EachByte(t *testing.T) {
	each(t, func(t *testing.T, f api.Form) {
		var all []byte
		for v := range 256 {
			all = append(all, byte(v))
		}
		m := of(f, load(3, 16, all...), other(own(all...)), other(in(0, 0, 256)), other(in(0, 255, 1)))
		m = with(m, api.Sec{Name: 5, Type: api.StrTab, Size: 257, At: own(append(all, 0)...)}, sec(own(all...)), sec(in(0, 128, 128)))
		m.Str, m.Secs[0].Name = 1, 0
		comesBack(t, m)
	})
}

// smallSegs tells kinds of segments for a place in a list; those of Type Load rise.
func smallSegs(at int) []api.Seg {
	v := uint64(100 * at)
	return []api.Seg{
		load(v, 0), load(v+3, 1, 1, 2, 3), load(v+5, 16, 4, 5, 6, 7), {Type: api.Load, Vaddr: v + 6, Memsz: 40, At: own(8)},
		other(own()), other(own(0)), other(own(fill(9, 9)...)),
		other(in(0, 0, 1)), other(in(1, 2, 1)), other(in(2, 1, 2)),
	}
}

// smallSecs tells kinds of sections.
func smallSecs() []api.Sec {
	return []api.Sec{
		sec(own()), sec(own(0, 1)), {Type: api.NoBits, Size: 7, At: own()}, {Size: 3, At: own()},
		{Type: api.StrTab, Size: 2, At: own(1, 0)}, sec(in(0, 1, 2)), sec(in(1, 0, 1)), sec(in(2, 0, 3)),
	}
}

// lists tells all lists of up to most elements, each of what kinds tells for its place.
func lists[T any](most int, kinds func(at int) []T) [][]T {
	all, last := [][]T{nil}, [][]T{nil}
	for at := range most {
		var longer [][]T
		for _, l := range last {
			for _, x := range kinds(at) {
				longer = append(longer, append(l[:len(l):len(l)], x))
			}
		}
		all, last = append(all, longer...), longer
	}
	return all
}

// TestT1SmallModels holds each list of up to three small segments with each list of up to two small sections, where such a model may be.
func TestT1SmallModels(t *testing.T) {
	secs := lists(2, func(int) []api.Sec { return smallSecs() })
	segs := lists(3, smallSegs)
	each(t, func(t *testing.T, f api.Form) {
		for _, l := range segs {
			for _, x := range secs {
				m := with(of(f, l...), x...)
				for m.Str = range len(x) + 1 {
					if want := model.Check(m); want == nil {
						comesBack(t, m)
					} else if b, err := file.Encode(m); err != want || len(b) != 0 {
						t.Errorf("%d, %v, not %v, of %s", len(b), err, want, brief(m))
					}
				}
			}
		}
	})
}

// TestT2Padding holds that what is read of a file whose things stand elsewhere is written in the one canonical form.
func TestT2Padding(t *testing.T) {
	each(t, func(t *testing.T, f api.Form) {
		m := small(f)
		canon := lay(t, m)
		// The tables are moved behind all else, section headers first, each from an odd place on.
		l := layoutOf(f)
		b := append(bytes.Clone(canon.b), 9, 9, 9)
		shoff := len(b)
		b = append(b, canon.b[canon.shoff:]...)
		b = append(b, 9, 9)
		phoff := len(b)
		b = append(b, canon.b[canon.phoff:canon.phoff+l.prog]...)
		d := &draft{b, f, phoff, shoff}
		d.head("shoff", uint64(shoff))
		d.head("phoff", uint64(phoff))
		// What stood there is nobody's now.
		copy(b[canon.shoff:], fill(3*l.sect, 5))
		copy(b[canon.phoff:], fill(l.prog, 5))
		reads(t, b, m)
		x, err := file.Parse(b)
		if err != nil {
			t.Fatal(err)
		}
		if c, err := file.Encode(x); err != nil || !bytes.Equal(c, canon.b) {
			t.Error(c, err)
		}
	})
}

// TestT2FirstSectionHeader holds that but for three of its numbers, where they are asked for, the first section header may be any.
func TestT2FirstSectionHeader(t *testing.T) {
	each(t, func(t *testing.T, f api.Form) {
		m := ordinary(f)
		d := lay(t, m)
		want := bytes.Clone(d.b)
		copy(d.b[d.shoff:], bytes.Repeat([]byte{255}, layoutOf(f).sect))
		reads(t, d.b, m)
		d.sect(0, "type", 1)
		reads(t, d.b, m)
		x, _ := file.Parse(d.b)
		if c, err := file.Encode(x); err != nil || !bytes.Equal(c, want) {
			t.Error(firstOther(c, want), err)
		}
	})
}
