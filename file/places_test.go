package file_test

import (
	"bytes"
	"math"
	"testing"

	"bezant/api"
	"bezant/file"
	"bezant/model"
)

// overlaps tells a file whose loaded segments have bytes in common: 10 to 30, 20 to 50, 10 to 30 again, 5 to 60, none, 70 to 80, counted from the third result on; ahead of them and between stand others, of 0 to 90. Its last section is free, and so is its last segment.
func overlaps(t *testing.T, f api.Form) (*draft, api.Model, uint64) {
	t.Helper()
	at := []stretch{{0, 90}, {10, 20}, {20, 30}, {0, 90}, {10, 20}, {5, 55}, {40, 0}, {70, 10}, {0, 0}}
	m := of(f)
	for i := range at {
		s := other(own())
		if i != 0 && i != 3 && i != 8 {
			s = load(uint64(1000*i), 0)
			s.Memsz = 500
		}
		m.Segs = append(m.Segs, s)
	}
	m = with(m, sec(own()), sec(own()))
	d := lay(t, m)
	base := uint64(len(d.b))
	d.b = append(d.b, fill(200, 1)...)
	for i, x := range at {
		d.prog(i, "off", base+x.off)
		d.prog(i, "filesz", x.size)
		m.Segs[i].At = d.own(base+x.off, x.size)
	}
	return d, m, base
}

// own tells the place of bytes of a file, as its own.
func (d *draft) own(off, size uint64) api.Place { return own(bytes.Clone(d.b[off : off+size])...) }

// inFirst tells where bytes of that file are, by the stretches that are told above.
func inFirst(d *draft, base, off, size uint64) api.Place {
	end := off + size
	switch {
	case size == 0:
		return own()
	case off >= 10 && end <= 30:
		return in(1, off-10, size)
	case off >= 20 && end <= 50:
		return in(2, off-20, size)
	case off >= 5 && end <= 60:
		return in(5, off-5, size)
	case off >= 70 && end <= 80:
		return in(7, off-70, size)
	}
	return d.own(base+off, size)
}

// TestP16_2FirstSegment holds each stretch of a file as a section's, and as a segment's: it is in the first loaded segment that has all of it.
func TestP16_2FirstSegment(t *testing.T) {
	each(t, func(t *testing.T, f api.Form) {
		d, m, base := overlaps(t, f)
		for off := range uint64(100) {
			for size := range uint64(100) {
				d.sect(2, "off", base+off)
				d.sect(2, "size", size)
				m.Secs[1].Size, m.Secs[1].At = size, inFirst(d, base, off, size)
				d.prog(8, "off", base+size)
				d.prog(8, "filesz", off)
				m.Segs[8].At = inFirst(d, base, size, off)
				x, err := file.Parse(d.b)
				if err != nil || !model.Same(x, m) {
					t.Fatalf("%d from %d on: %s, %v, not %s", size, off, brief(x), err, brief(m))
				}
			}
		}
		agree(t, d.b)
	})
}

// TestP16_2LoadedSegmentsAreTheirOwn holds that a loaded segment has its bytes as its own, also where another one has all of them.
func TestP16_2LoadedSegmentsAreTheirOwn(t *testing.T) {
	each(t, func(t *testing.T, f api.Form) {
		d, m, base := overlaps(t, f)
		reads(t, d.b, m)
		m.Segs[0].At, m.Segs[3].At = in(1, 2, 10), in(1, 2, 10)
		for _, i := range []int{0, 3} {
			d.prog(i, "off", base+12)
			d.prog(i, "filesz", 10)
		}
		reads(t, d.b, m)
		// They are at their places behind one another where they are written, and found in the first one again.
		comesBack(t, m)
		// With another Type the first one is none that has them.
		d.prog(1, "type", otherSeg)
		m.Segs[1].Type, m.Segs[1].At = otherSeg, in(4, 0, 20)
		m.Segs[0].At, m.Segs[3].At = in(4, 2, 10), in(4, 2, 10)
		reads(t, d.b, m)
	})
}

// TestP16_2BytesOfItsSegment holds a section, and a segment of another Type, around both ends of a loaded segment.
func TestP16_2BytesOfItsSegment(t *testing.T) {
	each(t, func(t *testing.T, f api.Form) {
		m := of(f, other(own()), load(64, 64, fill(16, 3)...), other(own()))
		m = with(m, sec(own()), sec(own(1)))
		d := lay(t, m)
		s := &scan{draft: *d}
		first := s.progGet(1, "off")
		for off := first - 20; off < first+20; off++ {
			for size := range uint64(40) {
				want := d.own(off, size)
				if size > 0 && off >= first && off+size <= first+16 {
					want = in(1, off-first, size)
				}
				c, x := d.copied(), m
				c.sect(1, "off", off)
				c.sect(1, "size", size)
				x.Secs = []api.Sec{{Type: otherSec, Size: size, At: want}, m.Secs[1]}
				reads(t, c.b, x)
				for _, i := range []int{0, 2} {
					c, x = d.copied(), m
					c.prog(i, "off", off)
					c.prog(i, "filesz", size)
					want.Own = bytes.Clone(c.b[off : off+size])
					if want.In != -1 {
						want.Own = nil
					}
					x.Segs = append([]api.Seg{}, m.Segs...)
					x.Segs[i].At = want
					reads(t, c.b, x)
				}
			}
		}
	})
}

// TestP16_2OddSegments holds that a loaded segment without bytes has none of anything, wherever it says that it is, and of one with memory behind its bytes these alone count.
func TestP16_2OddSegments(t *testing.T) {
	each(t, func(t *testing.T, f api.Form) {
		m := of(f, load(0, 0), load(4096, 0, 1, 2, 3, 4), load(1<<20, 0))
		m.Segs[0].Memsz, m.Segs[1].Memsz, m.Segs[2].Memsz = 4096, 4096, 1<<20
		m = with(m, sec(in(1, 1, 2)), sec(own(5, 6)), sec(in(1, 0, 4)), sec(own()))
		d := lay(t, m)
		reads(t, d.b, m)
		s := &scan{draft: *d}
		first := s.progGet(1, "off")
		for _, off := range append(anywhere(f, len(d.b)), first, first+1, first-1, first+4, top(f)-first+1, top(f)-first) {
			for _, i := range []int{0, 2} {
				c := d.copied()
				c.prog(i, "off", off)
				reads(t, c.b, m)
			}
		}
		// The four bytes, and the one behind them.
		d.sect(3, "size", 5)
		m.Secs[2].Size, m.Secs[2].At = 5, d.own(first, 5)
		reads(t, d.b, m)
	})
}

// TestP16_2StrIsItsOwn holds that section Str has its bytes as its own, also where they are a loaded segment's; by Str itself, and by Escape.
func TestP16_2StrIsItsOwn(t *testing.T) {
	each(t, func(t *testing.T, f api.Form) {
		const table = "\x00ab\x00"
		m := of(f, load(0, 0, []byte("xx"+table+"yy")...))
		names := api.Sec{Name: 1, Type: api.StrTab, Size: 4, At: in(0, 2, 4)}
		m = with(m, names, names, names)
		for i := range m.Secs {
			m.Secs[i].Name = 0
		}
		d := lay(t, m)
		reads(t, d.b, m)
		for str := 1; str <= 3; str++ {
			x := with(m, names, names, names)
			x.Str = str
			x.Secs[str-1].At = text(table)
			c := d.copied()
			for i := range 3 {
				c.sect(i+1, "name", 1)
			}
			c.head("str", uint64(str))
			reads(t, c.b, x)
			c.head("str", 65535)
			c.sect(0, "link", uint64(str))
			reads(t, c.b, x)
			// Written, it stands behind the segment, and all else where it was.
			comesBack(t, x)
			b, err := file.Encode(x)
			if err != nil || !bytes.Contains(b, []byte("xx"+table+"yy")) || bytes.Count(b, []byte(table)) != 2 {
				t.Error(b, err)
			}
		}
		// Names outside of each section's reach stand in the way.
		d.head("str", 4)
		refuses(t, d.b, 0, api.ErrLink)
	})
}

// TestP16_2StrWithoutBytes holds that section Str may be one that has no bytes: it is read, and then it has no name.
func TestP16_2StrWithoutBytes(t *testing.T) {
	each(t, func(t *testing.T, f api.Form) {
		for _, kind := range []uint32{api.Null, api.NoBits, api.StrTab} {
			m := with(of(f, load(0, 0, 0, 0)), api.Sec{Type: kind, At: own()})
			d := lay(t, m)
			for _, off := range anywhere(f, len(d.b)) {
				c := d.copied()
				c.head("str", 1)
				c.sect(1, "off", off)
				refuses(t, c.b, 0, api.ErrName)
				if kind != api.StrTab {
					c.sect(1, "size", off)
					refuses(t, c.b, 0, api.ErrName)
				}
			}
		}
	})
}

// TestP16_2LastSegmentAndSection holds places in the last of as many segments as there may be.
func TestP16_2LastSegmentAndSection(t *testing.T) {
	each(t, func(t *testing.T, f api.Form) {
		m := many(f, 16, 64)
		for i := range m.Secs {
			m.Secs[i] = sec(in(15-i%16, 0, 1))
		}
		m.Secs[63] = api.Sec{Type: api.StrTab, Size: 1, At: own(0)}
		m.Str = 64
		reads(t, lay(t, m).b, m)
		comesBack(t, m)
		for i := range 15 {
			m.Segs[i] = other(in(15, 0, 1))
		}
		for i := range 63 {
			m.Secs[i] = sec(in(15, 0, 1))
		}
		reads(t, lay(t, m).b, m)
		comesBack(t, m)
	})
}

// TestP16_2HeadersInASegment holds a loaded segment that has the file's header and program headers, as programs have it: they are its bytes, and are written behind the new ones.
func TestP16_2HeadersInASegment(t *testing.T) {
	each(t, func(t *testing.T, f api.Form) {
		l := layoutOf(f)
		m := of(f, other(own()), load(4096, 4096, fill(30, 2)...))
		m = with(m, sec(own()))
		d := lay(t, m)
		s := &scan{draft: *d}
		size := uint64(len(d.b))
		first := s.progGet(1, "off")
		d.prog(0, "type", 6)
		d.prog(0, "off", uint64(d.phoff))
		d.prog(0, "filesz", uint64(2*l.prog))
		d.prog(1, "off", 0)
		d.prog(1, "filesz", size)
		d.prog(1, "memsz", size)
		d.sect(1, "off", first+3)
		d.sect(1, "size", 4)
		m.Segs[0].Type, m.Segs[0].At = 6, in(1, uint64(l.header), uint64(2*l.prog))
		m.Segs[1].Memsz, m.Segs[1].At = size, d.own(0, size)
		m.Secs[0].Size, m.Secs[0].At = 4, in(1, first+3, 4)
		reads(t, d.b, m)
		b, err := file.Encode(m)
		if err != nil || !bytes.Equal(b[4096:][:size], d.b) {
			t.Error(err)
		}
		comesBack(t, m)
	})
}

// TestP16_2EachNumberIsRead holds that each number of the headers is told in the field that it is, each with a value of its own.
func TestP16_2EachNumberIsRead(t *testing.T) {
	each(t, func(t *testing.T, f api.Form) {
		last := top(f)
		m := api.Model{
			Ident: api.Ident{Form: f, OSABI: 0xf1, ABI: 0xf2}, Type: 0xf3f4, Machine: 0xf5f6, Flags: 0xf7f8f9fa, Entry: last - 0x0102, Str: 2,
			Segs: []api.Seg{
				{Type: 0xe1e2e3e4, Flags: 0xe5e6e7e8, Vaddr: last - 0x0304, Paddr: last - 0x0506, Memsz: last - 0x0708, Align: last/2 + 1, At: own()},
				{Type: api.Load, Flags: 0xd5d6d7d8, Vaddr: last - 0x090a, Paddr: last - 0x0b0c, Memsz: 0x0909, Align: 2, At: own(3, 4, 5)},
			},
			Secs: []api.Sec{
				{Name: 1, Type: 0xc1c2c3c4, Flags: last - 0x0d0e, Addr: last - 0x0f10, Size: 3, Link: 2, Info: 0xb1b2b3b4, Align: last - 0x1112, Entsize: last - 0x1314, At: own(6, 7, 8)},
				{Name: 2, Type: api.StrTab, Flags: last - 0x1516, Addr: last - 0x1718, Size: 4, Link: 1, Info: math.MaxUint32, Align: last - 0x191a, Entsize: last - 0x1b1c, At: own(0, 1, 0, 0)},
				{Name: 3, Type: api.NoBits, Flags: 1, Addr: 2, Size: last - 0x1d1e, Link: 3, Info: 4, Align: 5, Entsize: 6, At: own()},
			},
		}
		d := lay(t, m)
		reads(t, d.b, m)
		comesBack(t, m)
		writes(t, m)
	})
}
