package file_test

import (
	"bytes"
	"errors"
	"maps"
	"math"
	"slices"
	"testing"

	"bezant/api"
	"bezant/file"
	"bezant/plan"
)

// TestT3EachByte holds each byte of a file as many another value.
func TestT3EachByte(t *testing.T) {
	each(t, func(t *testing.T, f api.Form) {
		for _, m := range []api.Model{ordinary(f), small(f)} {
			d := lay(t, m)
			d.b = append(d.b, fill(9, 9)...)
			for at, was := range d.b {
				for _, v := range []byte{0, 1, 2, 3, 4, 7, 8, 16, 64, 127, 128, 254, 255, was + 1, was - 1, was ^ 16} {
					d.b[at] = v
					agree(t, d.b)
				}
				d.b[at] = was
			}
		}
	})
}

// edges tells numbers that stand at an edge of something, in a file of n bytes.
func edges(f api.Form, n int) []uint64 {
	v, last := uint64(n), top(f)
	return []uint64{
		0, 1, 2, 3, 6, 8, 16, 17, 52, 64, 65, 66, v / 2, v - 64, v - 1, v, v + 1, 65534, 65535, 65536,
		1 << 31, math.MaxUint32, last / 2, last/2 + 1, last - v, last - v + 1, last - 1, last,
	}
}

// spots tells each number of a file's headers, as what sets it.
func spots(m api.Model, l layout) []func(d *draft, v uint64) {
	var all []func(d *draft, v uint64)
	for _, name := range slices.Sorted(maps.Keys(l.headNumbers)) {
		all = append(all, func(d *draft, v uint64) { d.head(name, v) })
	}
	for i := range m.Segs {
		for _, name := range slices.Sorted(maps.Keys(l.progNumbers)) {
			all = append(all, func(d *draft, v uint64) { d.prog(i, name, v) })
		}
	}
	for i := range len(m.Secs) + 1 {
		for _, name := range slices.Sorted(maps.Keys(l.sectNumbers)) {
			all = append(all, func(d *draft, v uint64) { d.sect(i, name, v) })
		}
	}
	return all
}

// TestT3EachNumber holds each number of all headers at each edge.
func TestT3EachNumber(t *testing.T) {
	each(t, func(t *testing.T, f api.Form) {
		m := ordinary(f)
		d := lay(t, m)
		for _, set := range spots(m, layoutOf(f)) {
			for _, v := range edges(f, len(d.b)) {
				c := d.copied()
				set(c, v)
				agree(t, c.b)
			}
		}
	})
}

// TestT3SeveralNumbers holds two to nine numbers at once, drawn by a fixed rule.
func TestT3SeveralNumbers(t *testing.T) {
	each(t, func(t *testing.T, f api.Form) {
		m := ordinary(f)
		d := lay(t, m)
		l, v := spots(m, layoutOf(f)), edges(f, len(d.b))
		state := uint64(1)
		draw := func(n int) int {
			state = state*6364136223846793005 + 1442695040888963407
			return int(state>>33) % n
		}
		read := 0
		for range 20000 {
			c := d.copied()
			for range 2 + draw(8) {
				l[draw(len(l))](c, v[draw(len(v))])
			}
			agree(t, c.b)
			if _, err := file.Parse(c.b); err == nil {
				read++
			}
		}
		if read < 100 {
			t.Error("too few files are read:", read)
		}
	})
}

// TestT3TwoOfTheHeader holds each two numbers of the header that tell of tables, and of the first section header, at each edge.
func TestT3TwoOfTheHeader(t *testing.T) {
	each(t, func(t *testing.T, f api.Form) {
		d := lay(t, ordinary(f))
		var l []func(d *draft, v uint64)
		for _, name := range []string{"phoff", "shoff", "phnum", "shnum", "str"} {
			l = append(l, func(d *draft, v uint64) { d.head(name, v) })
		}
		for _, name := range []string{"size", "link", "info"} {
			l = append(l, func(d *draft, v uint64) { d.sect(0, name, v) })
		}
		for i := range l {
			for k := range i {
				for _, v := range edges(f, len(d.b)) {
					for _, w := range edges(f, len(d.b)) {
						c := d.copied()
						l[i](c, v)
						l[k](c, w)
						agree(t, c.b)
						c.head("phnum", 65535)
						agree(t, c.b)
						c.head("shnum", 0)
						c.head("str", 65535)
						agree(t, c.b)
					}
				}
			}
		}
	})
}

// TestT3OddBytes holds bytes that are hardly a file: few of them, all of one kind, and a file's beginning with anything behind it.
func TestT3OddBytes(t *testing.T) {
	for n := range 130 {
		for _, v := range []byte{0, 1, 2, 127, 255} {
			b := bytes.Repeat([]byte{v}, n)
			agree(t, b)
			for class := range byte(4) {
				for order := range byte(4) {
					agree(t, append([]byte{127, 'E', 'L', 'F', class, order, 1}, b...))
				}
			}
		}
	}
}

// TestT3Codes holds which errors are told at all, and that each is asked by errors.Is and by errors.As.
func TestT3Codes(t *testing.T) {
	each(t, func(t *testing.T, f api.Form) {
		seen := map[api.Code]bool{}
		for _, x := range flaws(f) {
			d := lay(t, ordinary(f))
			x.do(d)
			_, err := file.Parse(d.b)
			var spot *api.Spot
			var code api.Code
			if !errors.As(err, &spot) || !errors.As(err, &code) || !errors.Is(err, x.code) || code != x.code || spot.At != x.at {
				t.Error(err, x.at, x.code)
			}
			seen[x.code] = true
		}
		want := []api.Code{api.ErrShort, api.ErrMagic, api.ErrForm, api.ErrRange, api.ErrAlign, api.ErrOrder, api.ErrLarge, api.ErrName, api.ErrLink, api.ErrWrap}
		if got := slices.Sorted(maps.Keys(seen)); !slices.Equal(got, slices.Sorted(slices.Values(want))) {
			t.Error(got)
		}
	})
}

// TestP1OddModels holds that whatever a model has, Encode ends, and tells a file, or what layer 15 tells.
func TestP1OddModels(t *testing.T) {
	odd := []uint64{0, 1, 3, 84, 120, 65535, 65536, 1 << 31, math.MaxUint32, 1 << 63, math.MaxUint64}
	each(t, func(t *testing.T, f api.Form) {
		for _, i := range []int{math.MinInt, -2, -1, 0, 1, 2, math.MaxInt} {
			for _, off := range odd {
				for _, size := range odd {
					for _, b := range [][]byte{nil, make([]byte, 3)} {
						at := api.Place{In: i, Off: off, Size: size, Own: b}
						for kind := range uint32(4) {
							s := api.Seg{Type: kind, Vaddr: off, Paddr: size, Memsz: size, Align: off, At: at}
							m := with(of(f, s, load(5, 0, 1, 2, 3), s), api.Sec{Type: kind, Size: size, At: at})
							m.Str = int(kind)
							oddModel(t, m)
							m.Segs = m.Segs[1:2]
							oddModel(t, m)
							m.Segs, m.Str = nil, 0
							oddModel(t, m)
						}
					}
				}
			}
		}
	})
}

// oddModel holds what Encode answers of a model that may hardly be.
func oddModel(t *testing.T, m api.Model) {
	t.Helper()
	b, err := file.Encode(m)
	if _, want := plan.Of(m); err != want || (err != nil && len(b) != 0) {
		t.Errorf("%d bytes, %v, not %v, of %s", len(b), err, want, brief(m))
	}
	if err == nil {
		writes(t, m)
		comesBack(t, m)
	}
}
