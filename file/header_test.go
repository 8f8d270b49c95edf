package file_test

import (
	"bytes"
	"math"
	"testing"

	"bezant/api"
	"bezant/file"
	"bezant/head"
)

func TestP16_2NoBytes(t *testing.T) {
	refuses(t, nil, 0, api.ErrShort)
	refuses(t, []byte{}, 0, api.ErrShort)
}

// TestP16_2CutOffHeader holds files that end ahead of each byte of the header, and so of each number.
func TestP16_2CutOffHeader(t *testing.T) {
	each(t, func(t *testing.T, f api.Form) {
		for _, m := range models(f) {
			d := lay(t, m)
			for n := range layoutOf(f).header {
				refuses(t, d.b[:n], n, api.ErrShort)
			}
		}
	})
}

// TestP16_2CutOff holds files that end ahead of each byte behind the header: where there are sections their headers aren't whole.
func TestP16_2CutOff(t *testing.T) {
	each(t, func(t *testing.T, f api.Form) {
		d := lay(t, ordinary(f))
		for n := layoutOf(f).header; n < len(d.b); n++ {
			refuses(t, d.b[:n], d.at("shoff"), api.ErrRange)
		}
		reads(t, d.b, ordinary(f))
		m := of(f, load(5, 8, 1, 2, 3), other(in(0, 0, 3)), other(own(9, 8)))
		d = lay(t, m)
		begin := d.progAt(3)
		for n := layoutOf(f).header; n < begin; n++ {
			refuses(t, d.b[:n], d.at("phoff"), api.ErrRange)
		}
		p := &scan{draft: *d}
		end := int(p.progGet(0, "off")) + 3
		for n := begin; n < end; n++ {
			refuses(t, d.b[:n], d.progAt(0), api.ErrRange)
		}
		for n := end; n < len(d.b); n++ {
			refuses(t, d.b[:n], d.progAt(2), api.ErrRange)
		}
		reads(t, d.b, m)
	})
}

// TestP16_2Layer4 holds layer 4's errors, by its own answers and by some told here.
func TestP16_2Layer4(t *testing.T) {
	each(t, func(t *testing.T, f api.Form) {
		for _, m := range []api.Model{ordinary(f), of(f)} {
			d := lay(t, m)
			for at := range layoutOf(f).header {
				for _, v := range []byte{0, 1, 2, 3, 32, 40, 52, 56, 64, 127, 128, 255} {
					c := d.copied()
					c.b[at] = v
					agree(t, c.b)
					if _, err := head.Get(c.b); err != nil {
						spot := err.(*api.Spot)
						refuses(t, c.b, spot.At, spot.Code)
					}
				}
			}
		}
		for _, x := range []struct {
			name string
			v    uint64
		}{{"version", 0}, {"version", 2}, {"version", 1 << 24}, {"headsize", 0}, {"headsize", 65535}, {"progsize", 0}, {"progsize", 33}, {"sectsize", 0}, {"sectsize", 65}} {
			d := lay(t, ordinary(f))
			d.head(x.name, x.v)
			refuses(t, d.b, d.at(x.name), api.ErrForm)
		}
		for at, v := range []byte{126, 'e', 'l', 'f'} {
			d := lay(t, ordinary(f))
			d.b[at] = v
			refuses(t, d.b, at, api.ErrMagic)
		}
	})
}

// TestP16_2SizesOfNone holds that how many bytes a header of a table has may be any, where there is no such table.
func TestP16_2SizesOfNone(t *testing.T) {
	each(t, func(t *testing.T, f api.Form) {
		for _, v := range []uint64{0, 1, 32, 40, 56, 64, 65535} {
			m := of(f)
			d := lay(t, m)
			d.head("progsize", v)
			d.head("sectsize", v)
			reads(t, d.b, m)
			m = of(f, other(own(3)))
			d = lay(t, m)
			d.head("sectsize", v)
			reads(t, d.b, m)
			m = with(of(f), sec(own(3)))
			d = lay(t, m)
			d.head("progsize", v)
			reads(t, d.b, m)
		}
	})
}

// TestP16_2MaxFile holds just as many bytes as there may be, one less, and more.
func TestP16_2MaxFile(t *testing.T) {
	each(t, func(t *testing.T, f api.Form) {
		for _, m := range []api.Model{of(f), ordinary(f)} {
			d := lay(t, m)
			room := make([]byte, 1<<20)
			copy(room, d.b)
			reads(t, room[:65535], m)
			reads(t, room[:65536], m)
			for _, n := range []int{65537, 65538, 131072, 1 << 20} {
				refuses(t, room[:n], 65536, api.ErrLarge)
			}
			// A file that is wrong from its first byte on is too large, too.
			clear(room)
			refuses(t, room[:65536], 0, api.ErrMagic)
			refuses(t, room[:65537], 65536, api.ErrLarge)
		}
	})
}

// TestP16_2NoShoff holds that without section headers there is none, and none is told.
func TestP16_2NoShoff(t *testing.T) {
	each(t, func(t *testing.T, f api.Form) {
		at := 48
		if f.Wide {
			at = 60
		}
		for _, m := range []api.Model{of(f), of(f, load(5, 8, 1, 2, 3), other(in(0, 0, 3)))} {
			d := lay(t, m)
			reads(t, d.b, m)
			for _, n := range []uint64{1, 2, 64, 65, 66, 256, 65534, 65535} {
				d.head("shnum", n)
				refuses(t, d.b, at, api.ErrForm)
			}
		}
		// Section headers that no Shoff tells of aren't looked at.
		m := ordinary(f)
		d := lay(t, m)
		d.head("shoff", 0)
		refuses(t, d.b, at, api.ErrForm)
		d.head("shnum", 0)
		refuses(t, d.b, 0, api.ErrLink)
		d.head("str", 0)
		m.Secs, m.Str = nil, 0
		reads(t, d.b, m)
	})
}

// ends tells places around a file's end, at which not all of a thing of so many bytes is in the file.
func ends(f api.Form, have, size int) []uint64 {
	n, v := uint64(have), top(f)
	l := []uint64{n - uint64(size) + 1, n - 1, n, n + 1, n + uint64(size), 65535, 65536, 1 << 31, v/2 + 1, v - uint64(size), v - uint64(size) + 1, v - uint64(size) + 2, v - 1, v}
	if f.Wide {
		l = append(l, 1<<32, 1<<32+16, 1<<63+16)
	}
	return l
}

// TestP16_2Shoff holds where the section headers may begin.
func TestP16_2Shoff(t *testing.T) {
	each(t, func(t *testing.T, f api.Form) {
		at, size := 32, layoutOf(f).sect
		if f.Wide {
			at = 40
		}
		for secs := 1; secs <= 4; secs++ {
			m := many(f, 2, secs)
			d := lay(t, m)
			whole := size * (secs + 1)
			if d.shoff != len(d.b)-whole {
				t.Fatal("the section headers don't end the file")
			}
			// Of the first one alone, and of all of them.
			for _, v := range append(ends(f, len(d.b), size), ends(f, len(d.b), whole)...) {
				c := d.copied()
				c.head("shoff", v)
				refuses(t, c.b, at, api.ErrRange)
			}
		}
	})
}

// TestP16_2ShoffAnywhere holds each place of a file as Shoff.
func TestP16_2ShoffAnywhere(t *testing.T) {
	each(t, func(t *testing.T, f api.Form) {
		for _, m := range []api.Model{small(f), ordinary(f), with(of(f), sec(own()))} {
			d := lay(t, m)
			d.b = append(d.b, make([]byte, 100)...)
			for v := range len(d.b) + 2 {
				for _, n := range []uint64{0, 1, 2} {
					c := d.copied()
					c.head("shoff", uint64(v))
					c.head("shnum", n)
					agree(t, c.b)
				}
			}
		}
	})
}

// TestP16_2SectionHeadersEnd holds section headers that end just at the file's end, and beyond it, by one byte, or by one header.
func TestP16_2SectionHeadersEnd(t *testing.T) {
	each(t, func(t *testing.T, f api.Form) {
		size := layoutOf(f).sect
		for _, secs := range []int{1, 2, 7, 63, 64} {
			m := many(f, 1, secs)
			d := lay(t, m)
			reads(t, d.b, m)
			refuses(t, d.b[:len(d.b)-1], d.at("shoff"), api.ErrRange)
			for _, alter := range []func(c *draft, n uint64){
				func(c *draft, n uint64) { c.head("shnum", n) },
				func(c *draft, n uint64) { c.head("shnum", 0); c.sect(0, "size", n) },
			} {
				c := d.copied()
				alter(c, uint64(secs+2))
				code := api.ErrRange
				if secs == 64 {
					code = api.ErrLarge
				}
				refuses(t, c.b, d.at("shoff"), code)
				c.b = append(c.b, make([]byte, size-1)...)
				refuses(t, c.b, d.at("shoff"), code)
				c.b = append(c.b, 0)
				if code == api.ErrRange {
					// The header of 0s behind all others is a section, too.
					longer := many(f, 1, secs)
					longer.Secs = append(longer.Secs, api.Sec{At: own()})
					reads(t, c.b, longer)
				} else {
					refuses(t, c.b, d.at("shoff"), code)
				}
			}
		}
	})
}

// TestP16_2ShnumEach holds each Shnum, where all headers that there may be are in the file.
func TestP16_2ShnumEach(t *testing.T) {
	each(t, func(t *testing.T, f api.Form) {
		m := many(f, 1, 64)
		d := lay(t, m)
		// Without any in the first section header, Shnum 0 is as many.
		for n := range 65536 {
			if n > 70 && n%255 != 0 && n%256 != 65 {
				continue
			}
			d.head("shnum", uint64(n))
			if n == 0 || n > 65 {
				refuses(t, d.b, d.at("shoff"), api.ErrLarge)
				continue
			}
			x := m
			x.Secs = m.Secs[:n-1]
			reads(t, d.b, x)
		}
	})
}

// TestP16_2ShnumZero holds that the first section header's Size is how many there are.
func TestP16_2ShnumZero(t *testing.T) {
	each(t, func(t *testing.T, f api.Form) {
		m := many(f, 1, 64)
		d := lay(t, m)
		d.head("shnum", 0)
		for n := uint64(1); n <= 65; n++ {
			d.sect(0, "size", n)
			x := m
			x.Secs = m.Secs[:n-1]
			reads(t, d.b, x)
		}
		large := []uint64{0, 66, 67, 255, 256, 257, 65535, 65536, 65537, 1<<16 + 2, 1 << 26, 1<<26 + 1, 1 << 31, top(f)/64 + 2, top(f) - 64, top(f) - 1, top(f)}
		if f.Wide {
			large = append(large, 1<<32, 1<<32+1, 1<<58, 1<<58+1, 1<<63+1)
		}
		for _, n := range large {
			d.sect(0, "size", n)
			refuses(t, d.b, d.at("shoff"), api.ErrLarge)
		}
		// As many as Shnum tells there are, whatever that Size is.
		d.head("shnum", 65)
		reads(t, d.b, m)
	})
}

// TestP16_2OneSectionHeader holds that the first section header alone is no section.
func TestP16_2OneSectionHeader(t *testing.T) {
	each(t, func(t *testing.T, f api.Form) {
		m := of(f, load(5, 8, 1, 2, 3))
		for _, n := range []uint64{0, 1} {
			d := lay(t, with(m, sec(own(4))))
			d.b = d.b[:d.sectAt(1)]
			d.head("shnum", n)
			d.sect(0, "size", 1)
			reads(t, d.b, m)
			d.b = d.b[:len(d.b)-1]
			refuses(t, d.b, d.at("shoff"), api.ErrRange)
		}
	})
}

// TestP16_2PhnumEach holds each Phnum, where all headers that there may be are in the file.
func TestP16_2PhnumEach(t *testing.T) {
	each(t, func(t *testing.T, f api.Form) {
		at := 44
		if f.Wide {
			at = 56
		}
		for _, secs := range []int{0, 1} {
			m := many(f, 16, secs)
			d := lay(t, m)
			for n := range 65535 {
				if n > 40 && n%255 != 0 && n%256 != 16 {
					continue
				}
				d.head("phnum", uint64(n))
				if n > 16 {
					refuses(t, d.b, at, api.ErrLarge)
					continue
				}
				x := m
				x.Segs = m.Segs[:n]
				reads(t, d.b, x)
			}
		}
	})
}

// TestP16_2PhnumEscape holds that the first section header's Info is how many there are.
func TestP16_2PhnumEscape(t *testing.T) {
	each(t, func(t *testing.T, f api.Form) {
		at := 44
		if f.Wide {
			at = 56
		}
		m := many(f, 16, 1)
		d := lay(t, m)
		d.head("phnum", 65535)
		for n := range uint64(17) {
			d.sect(0, "info", n)
			x := m
			x.Segs = m.Segs[:n]
			reads(t, d.b, x)
		}
		for _, n := range []uint64{17, 18, 255, 256, 65535, 65536, 65537, 1<<16 + 16, 1 << 24, 1 << 27, 1<<27 + 1, 1 << 31, math.MaxUint32} {
			d.sect(0, "info", n)
			refuses(t, d.b, at, api.ErrLarge)
		}
		d.sect(0, "info", 16)
		d.head("shoff", 0)
		d.head("shnum", 0)
		refuses(t, d.b, at, api.ErrForm)
		d = lay(t, many(f, 16, 0))
		d.head("phnum", 65535)
		refuses(t, d.b, at, api.ErrForm)
		// One less is no Escape.
		d.head("phnum", 65534)
		refuses(t, d.b, at, api.ErrLarge)
		// And of fewer the first section header has no say.
		d = lay(t, m)
		d.sect(0, "info", 3)
		reads(t, d.b, m)
	})
}

// TestP16_2Phoff holds where the program headers may begin.
func TestP16_2Phoff(t *testing.T) {
	each(t, func(t *testing.T, f api.Form) {
		at, size := 28, layoutOf(f).prog
		if f.Wide {
			at = 32
		}
		for _, segs := range []int{1, 2, 16} {
			m := many(f, segs, 1)
			d := lay(t, m)
			whole := size * segs
			for _, v := range ends(f, len(d.b), whole) {
				c := d.copied()
				c.head("phoff", v)
				refuses(t, c.b, at, api.ErrRange)
			}
			// They may end just at the file's end.
			d.b = append(d.b, d.b[d.phoff:d.phoff+whole]...)
			clear(d.b[d.phoff:][:whole])
			d.head("phoff", uint64(len(d.b)-whole))
			reads(t, d.b, m)
			d.head("phoff", uint64(len(d.b)-whole+1))
			refuses(t, d.b, at, api.ErrRange)
		}
	})
}

// TestP16_2PhoffAnywhere holds each place of a file as Phoff.
func TestP16_2PhoffAnywhere(t *testing.T) {
	each(t, func(t *testing.T, f api.Form) {
		for _, m := range []api.Model{small(f), ordinary(f), of(f, other(own()))} {
			d := lay(t, m)
			d.b = append(d.b, make([]byte, 100)...)
			for v := range len(d.b) + 2 {
				for _, n := range []uint64{1, 2} {
					c := d.copied()
					c.head("phoff", uint64(v))
					c.head("phnum", n)
					agree(t, c.b)
				}
			}
		}
	})
}

// TestP16_2PhoffOfNone holds that Phoff may be any, where there are no program headers, by Phnum or by Escape.
func TestP16_2PhoffOfNone(t *testing.T) {
	each(t, func(t *testing.T, f api.Form) {
		for _, m := range []api.Model{of(f), with(of(f), sec(own(3)))} {
			d := lay(t, m)
			places := append(ends(f, len(d.b), layoutOf(f).prog), 0, 1, 52, 64, uint64(len(d.b)-layoutOf(f).prog))
			for _, v := range places {
				d.head("phoff", v)
				reads(t, d.b, m)
			}
			if len(m.Secs) == 0 {
				continue
			}
			d.head("phnum", 65535)
			d.head("progsize", uint64(layoutOf(f).prog))
			for _, v := range places {
				d.head("phoff", v)
				reads(t, d.b, m)
			}
		}
	})
}

// TestP16_2Str holds which section has the names, by Str itself.
func TestP16_2Str(t *testing.T) {
	each(t, func(t *testing.T, f api.Form) {
		m := ordinary(f)
		d := lay(t, m)
		reads(t, d.b, m)
		for _, v := range []uint64{7, 8, 255, 256 + 2, 65534} {
			d.head("str", v)
			refuses(t, d.b, 0, api.ErrLink)
		}
		for _, v := range []uint64{0, 1, 3, 4, 5, 6} {
			d.head("str", v)
			refuses(t, d.b, 0, api.ErrName)
		}
		d = lay(t, of(f))
		for _, v := range []uint64{1, 2, 256, 65534} {
			d.head("str", v)
			refuses(t, d.b, 0, api.ErrLink)
		}
	})
}

// TestP16_2StrEscape holds that the first section header's Link is Str.
func TestP16_2StrEscape(t *testing.T) {
	each(t, func(t *testing.T, f api.Form) {
		at := 50
		if f.Wide {
			at = 62
		}
		m := ordinary(f)
		d := lay(t, m)
		d.head("str", 65535)
		refuses(t, d.b, 0, api.ErrName)
		d.sect(0, "link", 2)
		reads(t, d.b, m)
		for _, v := range []uint64{7, 65534, 65535, 65536, 65536 + 2, 1 << 31, math.MaxUint32} {
			d.sect(0, "link", v)
			refuses(t, d.b, 0, api.ErrLink)
		}
		for _, v := range []uint64{0, 1, 6} {
			d.sect(0, "link", v)
			refuses(t, d.b, 0, api.ErrName)
		}
		d.sect(0, "link", 2)
		d.head("shoff", 0)
		d.head("shnum", 0)
		refuses(t, d.b, at, api.ErrForm)
		d = lay(t, of(f))
		d.head("str", 65535)
		refuses(t, d.b, at, api.ErrForm)
		// Link is asked for by Escape alone, and may be 0.
		m = with(of(f), sec(own(3)))
		d = lay(t, m)
		d.head("str", 65535)
		reads(t, d.b, m)
		d.head("str", 0)
		d.sect(0, "link", 9)
		reads(t, d.b, m)
	})
}

// TestP16_2AllEscapes holds a file that has all three numbers in its first section header.
func TestP16_2AllEscapes(t *testing.T) {
	each(t, func(t *testing.T, f api.Form) {
		for _, m := range []api.Model{ordinary(f), small(f)} {
			d := lay(t, m)
			canon := bytes.Clone(d.b)
			d.head("phnum", 65535)
			d.head("shnum", 0)
			d.head("str", 65535)
			d.sect(0, "size", uint64(len(m.Secs)+1))
			d.sect(0, "info", uint64(len(m.Segs)))
			d.sect(0, "link", uint64(m.Str))
			reads(t, d.b, m)
			x, _ := file.Parse(d.b)
			if b, err := file.Encode(x); err != nil || !bytes.Equal(b, canon) {
				t.Error("not written in the one form", err)
			}
		}
	})
}
