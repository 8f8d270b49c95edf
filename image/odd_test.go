package image_test

import (
	"bytes"
	"maps"
	"math"
	"slices"
	"testing"

	"bezant/api"
	"bezant/image"
)

// TestP1OddBytes holds bytes that are hardly a file: few of them, all of one kind, and a file's beginning with anything behind it.
func TestP1OddBytes(t *testing.T) {
	for n := range 130 {
		for _, v := range []byte{0, 1, 2, 127, 255} {
			b := bytes.Repeat([]byte{v}, n)
			agree(t, b)
			for class := range byte(4) {
				for order := range byte(4) {
					agree(t, append([]byte{127, 'E', 'L', 'F', class, order, 1}, b...))
				}
			}
		}
	}
}

// TestP1EachByte holds each byte of a file as each other value.
func TestP1EachByte(t *testing.T) {
	each(t, func(t *testing.T, f api.Form) {
		d, _ := ordinary(f)
		for i, was := range d.b {
			for v := range 256 {
				d.b[i] = byte(v)
				agree(t, d.b)
			}
			d.b[i] = was
		}
	})
}

// edges tells numbers that stand at an edge of something, in a file of n bytes.
func edges(f api.Form, n int) []uint64 {
	v, last := uint64(n), top(f)
	return []uint64{
		0, 1, 2, 3, 5, 6, 7, 16, 17, 52, 64, 65, 100, v / 2, v - 64, v - 1, v, v + 1, 65533, 65534, 65535, 65536,
		1 << 31, math.MaxUint32, last / 2, last/2 + 1, last - v, last - v + 1, last - 1, last,
	}
}

// setters tells each number of a file's headers, as what sets it.
func setters(f api.Form, n int) []func(d *draft, v uint64) {
	l := layoutOf(f)
	var all []func(d *draft, v uint64)
	for _, name := range slices.Sorted(maps.Keys(l.headNumbers)) {
		all = append(all, func(d *draft, v uint64) { d.head(name, v) })
	}
	for i := range n {
		for _, name := range slices.Sorted(maps.Keys(l.progNumbers)) {
			all = append(all, func(d *draft, v uint64) { d.prog(i, name, v) })
		}
	}
	return all
}

// TestP1EachNumber holds each number, and each two of them, at each edge.
func TestP1EachNumber(t *testing.T) {
	each(t, func(t *testing.T, f api.Form) {
		whole, _ := ordinary(f)
		l, v := setters(f, 3), edges(f, len(whole.b))
		for i, set := range l {
			for _, x := range v {
				d := whole.copied()
				set(d, x)
				agree(t, d.b)
				for k := range i {
					for _, y := range v {
						if (i+k+int(y%7))%5 != 0 {
							continue
						}
						c := d.copied()
						l[k](c, y)
						agree(t, c.b)
					}
				}
			}
		}
	})
}

// TestP1SeveralNumbers holds two to nine numbers at once, drawn by a fixed rule.
func TestP1SeveralNumbers(t *testing.T) {
	each(t, func(t *testing.T, f api.Form) {
		whole, _ := ordinary(f)
		l, v := setters(f, 6), edges(f, len(whole.b))
		state := uint64(1)
		draw := func(n int) int {
			state = state*6364136223846793005 + 1442695040888963407
			return int(state>>33) % n
		}
		had := 0
		for range 20000 {
			d := whole.copied()
			for range 2 + draw(8) {
				l[draw(len(l))](d, v[draw(len(v))])
			}
			agree(t, d.b)
			if _, ok := told(d.b); ok {
				had++
			}
		}
		if had < 100 {
			t.Error("too few files have an image:", had)
		}
	})
}

// TestP1OddImages holds images of the oddest regions at the oddest addresses.
func TestP1OddImages(t *testing.T) {
	odd := []uint64{0, 1, 2, 3, 1<<31 - 1, 1 << 31, 1<<32 - 1, 1 << 32, 1<<63 - 1, 1 << 63, last - 3, last - 2, last - 1, last}
	for _, a := range odd {
		for _, size := range odd {
			for n := range 4 {
				x := of(a, region(a, size, 3, fill(n, 1)...), api.Region{}, region(size, a, 4, fill(n, 9)...))
				for _, addr := range odd {
					switch {
					case size > 0 && addr >= a && addr-a <= size-1:
						at(t, x, addr, byteAt(x.Regions[0].Bytes, addr-a), 3)
					case a > 0 && addr >= size && addr-size <= a-1:
						at(t, x, addr, byteAt(x.Regions[2].Bytes, addr-size), 4)
					default:
						none(t, x, addr)
					}
				}
			}
		}
	}
	for _, addr := range odd {
		none(t, api.Image{}, addr)
		none(t, of(addr, make([]api.Region, 9)...), addr)
	}
}

// byteAt tells a byte, 0 behind the last one.
func byteAt(b []byte, i uint64) byte {
	if i >= uint64(len(b)) {
		return 0
	}
	return b[i]
}

// TestP1OddModels holds models that nobody would write.
func TestP1OddModels(t *testing.T) {
	for _, v := range []uint64{0, 1, 1 << 31, 1 << 32, 1 << 63, last} {
		for _, i := range []int{math.MinInt, -1, 0, 1, math.MaxInt} {
			s := api.Seg{Type: api.Load, Flags: uint32(v), Vaddr: v, Paddr: v, Memsz: v, Align: v, At: api.Place{In: i, Off: v, Size: v}}
			m := api.Model{Entry: v, Segs: []api.Seg{s, s}, Secs: []api.Sec{{Size: v, At: s.At}}, Str: i}
			loads(t, m, of(v, region(v, v, uint32(v)), region(v, v, uint32(v))))
			x := image.Model(m)
			for _, addr := range []uint64{0, 1, v, last} {
				if v > 0 && addr >= v && addr-v < v {
					at(t, x, addr, 0, uint32(v))
				} else {
					none(t, x, addr)
				}
			}
		}
	}
}
