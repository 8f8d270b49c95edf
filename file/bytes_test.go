package file_test

import (
	"bytes"
	"math"
	"testing"

	"bezant/api"
)

// stretch is an Off, and how many bytes stand from it on.
type stretch struct{ off, size uint64 }

// inside tells stretches that are in a file of n bytes, but for those of no bytes.
func inside(n int) []stretch {
	v := uint64(n)
	return []stretch{{0, 1}, {0, v}, {1, v - 1}, {v - 1, 1}, {v - 2, 2}, {v / 2, v - v/2}, {20, 3}}
}

// outside tells stretches that aren't in a file of n bytes, also such that wrap round if Off and size are added.
func outside(f api.Form, n int) []stretch {
	v, last := uint64(n), top(f)
	l := []stretch{
		{0, v + 1}, {1, v}, {v - 1, 2}, {v, 1}, {v, 2}, {v + 1, 1}, {v / 2, v - v/2 + 1}, {0, last}, {1, last}, {2, last}, {v, last}, {v + 1, last},
		{last, 1}, {last, 2}, {last, 21}, {last, v}, {last, last}, {last - 1, 2}, {last - 1, 3}, {last - 9, 20}, {last - v + 1, v}, {last - v + 1, 2 * v},
		{last/2 + 1, last/2 + 1}, {last/2 + 1, last/2 + 10}, {last/2 + 2, last/2 + 2}, {last / 2, last/2 + 2}, {65536, 1}, {0, 65536}, {0, 65537}, {1 << 31, 1},
	}
	if f.Wide {
		l = append(l, stretch{1 << 32, 1}, stretch{1<<32 - 1, 2}, stretch{0, 1 << 32}, stretch{1 << 32, 1 << 32}, stretch{20, 1<<32 + 3}, stretch{1<<32 + 20, 3})
	}
	return l
}

// anywhere tells many numbers of a class as Off of no bytes.
func anywhere(f api.Form, n int) []uint64 {
	v := uint64(n)
	return []uint64{0, 1, 52, v - 1, v, v + 1, 65535, 65536, 65537, 1 << 31, top(f)/2 + 1, top(f) - 1, top(f)}
}

// loose tells a model of four segments and five sections without bytes, where any stretch of the file may be told of the fourth of both.
func loose(f api.Form) api.Model {
	m := of(f, other(own()), other(own()), other(own()), other(own()))
	return with(m, sec(own()), sec(own()), sec(own()), sec(own()), sec(own()))
}

// TestP16_2ProgBytes holds which bytes a program header may tell of, in each place of the table, of Type Load and of others.
func TestP16_2ProgBytes(t *testing.T) {
	each(t, func(t *testing.T, f api.Form) {
		for i := range 4 {
			for _, kind := range []uint32{0, api.Load, api.Dynamic, otherSeg, 8, math.MaxUint32} {
				m := loose(f)
				m.Segs[i].Type, m.Segs[i].Memsz = kind, 1<<20
				d := lay(t, m)
				for _, x := range inside(len(d.b)) {
					c := d.copied()
					c.prog(i, "off", x.off)
					c.prog(i, "filesz", x.size)
					m.Segs[i].At = own(bytes.Clone(c.b[x.off : x.off+x.size])...)
					reads(t, c.b, m)
				}
				for _, x := range outside(f, len(d.b)) {
					c := d.copied()
					c.prog(i, "off", x.off)
					c.prog(i, "filesz", x.size)
					refuses(t, c.b, d.progAt(i), api.ErrRange)
				}
				m.Segs[i].At = own()
				for _, off := range anywhere(f, len(d.b)) {
					c := d.copied()
					c.prog(i, "off", off)
					reads(t, c.b, m)
				}
			}
		}
	})
}

// TestP16_2ProgBytesFirst holds that of several program headers with bytes beyond the file the first one is told, and ahead of section headers.
func TestP16_2ProgBytesFirst(t *testing.T) {
	each(t, func(t *testing.T, f api.Form) {
		d := lay(t, loose(f))
		for i := 5; i > 0; i-- {
			d.sect(i, "size", 5000)
			refuses(t, d.b, d.sectAt(i), api.ErrRange)
		}
		for i := 3; i >= 0; i-- {
			d.prog(i, "filesz", 5000)
			refuses(t, d.b, d.progAt(i), api.ErrRange)
		}
	})
}

// TestP16_2SectBytes holds which bytes a section header may tell of, in each place of the table, of Types that have bytes.
func TestP16_2SectBytes(t *testing.T) {
	each(t, func(t *testing.T, f api.Form) {
		for i := range 5 {
			for _, kind := range []uint32{otherSec, api.SymTab, api.StrTab, 7, api.RelTab, api.SymTabNdx, 1 << 8, 1<<8 + 8, 1 << 16, 1<<31 + 8, math.MaxUint32} {
				m := loose(f)
				m.Secs[i].Type = kind
				d := lay(t, m)
				for _, x := range inside(len(d.b)) {
					c := d.copied()
					c.sect(i+1, "off", x.off)
					c.sect(i+1, "size", x.size)
					m.Secs[i].Size, m.Secs[i].At = x.size, own(bytes.Clone(c.b[x.off:x.off+x.size])...)
					reads(t, c.b, m)
				}
				for _, x := range outside(f, len(d.b)) {
					c := d.copied()
					c.sect(i+1, "off", x.off)
					c.sect(i+1, "size", x.size)
					refuses(t, c.b, d.sectAt(i+1), api.ErrRange)
				}
				m.Secs[i].Size, m.Secs[i].At = 0, own()
				for _, off := range anywhere(f, len(d.b)) {
					c := d.copied()
					c.sect(i+1, "off", off)
					reads(t, c.b, m)
				}
			}
		}
	})
}

// TestP16_2SectionsWithoutBytes holds that sections of Null and NoBits may be anywhere, and of any Size, and have no bytes.
func TestP16_2SectionsWithoutBytes(t *testing.T) {
	each(t, func(t *testing.T, f api.Form) {
		for i := range 5 {
			for _, kind := range []uint32{api.Null, api.NoBits} {
				m := loose(f)
				// Bytes that are a loaded segment's are none of theirs, too.
				m.Segs[0] = load(0, 0, fill(30, 3)...)
				m.Secs[i].Type = kind
				d := lay(t, m)
				for _, x := range append(inside(len(d.b)), outside(f, len(d.b))...) {
					c := d.copied()
					c.sect(i+1, "off", x.off)
					c.sect(i+1, "size", x.size)
					m.Secs[i].Size = x.size
					reads(t, c.b, m)
				}
				m.Secs[i].Size = 0
				for _, off := range anywhere(f, len(d.b)) {
					c := d.copied()
					c.sect(i+1, "off", off)
					reads(t, c.b, m)
				}
			}
		}
	})
}

// TestP16_2FirstSectionHeaderHasNoBytes holds that its Off and Size tell of no bytes, whatever its Type is.
func TestP16_2FirstSectionHeaderHasNoBytes(t *testing.T) {
	each(t, func(t *testing.T, f api.Form) {
		m := loose(f)
		d := lay(t, m)
		d.sect(0, "type", otherSec)
		for _, x := range outside(f, len(d.b)) {
			d.sect(0, "off", x.off)
			d.sect(0, "size", x.size)
			reads(t, d.b, m)
		}
	})
}

// TestP16_2Layer15 holds what layer 15 tells of the model that a file has: its Code, At 0, and no model.
func TestP16_2Layer15(t *testing.T) {
	each(t, func(t *testing.T, f api.Form) {
		for _, x := range layer15(f) {
			d := lay(t, ordinary(f))
			x.do(d)
			refuses(t, d.b, 0, x.code)
		}
	})
}

// flaw is one thing amiss with an ordinary model's file, and what is told of it.
type flaw struct {
	do   func(d *draft)
	at   int
	code api.Code
}

// layer15 tells each error that layer 15 may tell of a model that was read, in its order.
func layer15(f api.Form) []flaw {
	return []flaw{
		{func(d *draft) { d.prog(0, "align", 3) }, 0, api.ErrAlign},
		{func(d *draft) { d.prog(1, "memsz", 9) }, 0, api.ErrRange},
		{func(d *draft) { d.prog(2, "align", top(f)) }, 0, api.ErrAlign},
		{func(d *draft) { d.prog(4, "vaddr", top(f)); d.prog(4, "memsz", 2) }, 0, api.ErrWrap},
		{func(d *draft) { d.prog(2, "vaddr", 1<<(bitsOf(f)-4)+24) }, 0, api.ErrOrder},
		{func(d *draft) { d.sect(1, "link", 7) }, 0, api.ErrLink},
		{func(d *draft) { d.sect(6, "link", math.MaxUint32) }, 0, api.ErrLink},
		{func(d *draft) { d.head("str", 7) }, 0, api.ErrLink},
		{func(d *draft) { d.sect(2, "type", otherSec) }, 0, api.ErrName},
		{func(d *draft) { d.sect(5, "name", 12) }, 0, api.ErrName},
		{func(d *draft) { d.sect(2, "size", 11) }, 0, api.ErrName},
		{func(d *draft) { d.prog(1, "align", 1<<30) }, 0, api.ErrLarge},
		{func(d *draft) {
			d.b = append(d.b, make([]byte, 60000)...)
			d.sect(5, "off", 0)
			d.sect(5, "size", 33000)
			d.prog(3, "off", 0)
			d.prog(3, "filesz", 33000)
		}, 0, api.ErrLarge},
	}
}

// TestP16_2ManyCopies holds that a file may tell one stretch of bytes as so many things that their plan may not be.
func TestP16_2ManyCopies(t *testing.T) {
	each(t, func(t *testing.T, f api.Form) {
		m := of(f)
		for range 16 {
			m.Segs = append(m.Segs, other(own()))
		}
		for range 64 {
			m.Secs = append(m.Secs, sec(own()))
		}
		d := lay(t, m)
		for n, want := range map[uint64]api.Code{1: 0, 100: 0, 700: 0, 900: api.ErrLarge, uint64(len(d.b)): api.ErrLarge} {
			for i := range 16 {
				d.prog(i, "filesz", n)
				d.prog(i, "off", uint64(i))
			}
			d.prog(15, "off", 0)
			for i := range 64 {
				d.sect(i+1, "size", n)
				d.sect(i+1, "off", 0)
			}
			d.head("str", 0)
			if want == 0 {
				for i := range m.Segs {
					off := uint64(i % 15)
					m.Segs[i].At = own(bytes.Clone(d.b[off : off+n])...)
				}
				for i := range m.Secs {
					m.Secs[i].Size, m.Secs[i].At = n, own(bytes.Clone(d.b[:n])...)
				}
				reads(t, d.b, m)
				continue
			}
			for i := range 15 {
				d.prog(i, "off", 0)
			}
			refuses(t, d.b, 0, want)
		}
	})
}
