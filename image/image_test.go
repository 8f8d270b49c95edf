package image_test

import (
	"bytes"
	"encoding/binary"
	"fmt"
	"math"
	"math/bits"
	"testing"

	"bezant/api"
	"bezant/head"
	"bezant/image"
)

// otherSeg is a Type of segments that aren't loaded.
const otherSeg = 4

// forms tells both classes in both orders.
func forms() []api.Form {
	return []api.Form{{}, {Big: true}, {Wide: true}, {Wide: true, Big: true}}
}

// each runs a test of both classes in both orders.
func each(t *testing.T, test func(t *testing.T, f api.Form)) {
	for _, f := range forms() {
		t.Run(fmt.Sprintf("%+v", f), func(t *testing.T) { test(t, f) })
	}
}

// top tells the greatest number of a class.
func top(f api.Form) uint64 {
	if f.Wide {
		return math.MaxUint64
	}
	return math.MaxUint32
}

// fill tells n bytes, none of them 0, and neighbours other ones.
func fill(n, first int) []byte {
	b := make([]byte, n)
	for i := range b {
		b[i] = byte((first+i)%255 + 1)
	}
	return b
}

// region tells memory that is loaded.
func region(addr, size uint64, flags uint32, b ...byte) api.Region {
	return api.Region{Addr: addr, Size: size, Flags: flags, Bytes: b}
}

// of tells an image.
func of(entry uint64, l ...api.Region) api.Image { return api.Image{Entry: entry, Regions: l} }

// same tells whether two images are alike, field by field; lists of no elements may be any.
func same(a, b api.Image) bool {
	if a.Entry != b.Entry || len(a.Regions) != len(b.Regions) {
		return false
	}
	for i, r := range a.Regions {
		s := b.Regions[i]
		if r.Addr != s.Addr || r.Size != s.Size || r.Flags != s.Flags || !bytes.Equal(r.Bytes, s.Bytes) {
			return false
		}
	}
	return true
}

// number is a number of a header: where it stands, from the header's first byte on, and how many bytes it has.
type number struct{ at, n int }

// layout tells how a class lays its headers: how many bytes they have, and their numbers by names.
type layout struct {
	header, prog, sect       int
	headNumbers, progNumbers map[string]number
}

var wide = layout{64, 56, 64,
	map[string]number{
		"type": {16, 2}, "machine": {18, 2}, "version": {20, 4}, "entry": {24, 8}, "phoff": {32, 8}, "shoff": {40, 8}, "flags": {48, 4},
		"headsize": {52, 2}, "progsize": {54, 2}, "phnum": {56, 2}, "sectsize": {58, 2}, "shnum": {60, 2}, "str": {62, 2},
	},
	map[string]number{
		"type": {0, 4}, "flags": {4, 4}, "off": {8, 8}, "vaddr": {16, 8}, "paddr": {24, 8}, "filesz": {32, 8}, "memsz": {40, 8}, "align": {48, 8},
	},
}

var narrow = layout{52, 32, 40,
	map[string]number{
		"type": {16, 2}, "machine": {18, 2}, "version": {20, 4}, "entry": {24, 4}, "phoff": {28, 4}, "shoff": {32, 4}, "flags": {36, 4},
		"headsize": {40, 2}, "progsize": {42, 2}, "phnum": {44, 2}, "sectsize": {46, 2}, "shnum": {48, 2}, "str": {50, 2},
	},
	map[string]number{
		"type": {0, 4}, "off": {4, 4}, "vaddr": {8, 4}, "paddr": {12, 4}, "filesz": {16, 4}, "memsz": {20, 4}, "flags": {24, 4}, "align": {28, 4},
	},
}

func layoutOf(f api.Form) layout {
	if f.Wide {
		return wide
	}
	return narrow
}

// draft is a file that a test may alter, number by number; its program headers stand where it says, whatever its header tells.
type draft struct {
	b     []byte
	f     api.Form
	phoff int
}

// blank tells a file of so many bytes, with a header, and with room for n program headers of 0s behind it.
func blank(f api.Form, n, size int) *draft {
	l := layoutOf(f)
	d := &draft{make([]byte, size), f, l.header}
	class, order := byte(1), byte(1)
	if f.Wide {
		class = 2
	}
	if f.Big {
		order = 2
	}
	copy(d.b, []byte{127, 69, 76, 70, class, order, 1})
	d.head("version", 1)
	d.head("headsize", uint64(l.header))
	if n > 0 {
		d.head("progsize", uint64(l.prog))
		d.head("phoff", uint64(l.header))
		d.head("phnum", uint64(n))
	}
	return d
}

// head alters a number of the header.
func (d *draft) head(name string, v uint64) { d.set(0, layoutOf(d.f).headNumbers, name, v) }

// prog alters a number of a program header.
func (d *draft) prog(i int, name string, v uint64) {
	l := layoutOf(d.f)
	d.set(d.phoff+i*l.prog, l.progNumbers, name, v)
}

// load alters a program header's numbers, but for Paddr and Align, which have no say; Type is Load.
func (d *draft) load(i int, off, filesz, vaddr, memsz uint64, flags uint32) {
	d.prog(i, "type", 1)
	d.prog(i, "off", off)
	d.prog(i, "filesz", filesz)
	d.prog(i, "vaddr", vaddr)
	d.prog(i, "memsz", memsz)
	d.prog(i, "flags", uint64(flags))
}

// find tells a number by its name.
func find(l map[string]number, name string) number {
	x, ok := l[name]
	if !ok {
		panic("no number " + name)
	}
	return x
}

func (d *draft) set(begin int, l map[string]number, name string, v uint64) {
	x := find(l, name)
	at := d.b[begin+x.at:][:x.n]
	if d.f.Big {
		copy(at, binary.BigEndian.AppendUint64(nil, v)[8-x.n:])
	} else {
		copy(at, binary.LittleEndian.AppendUint64(nil, v)[:x.n])
	}
}

// get tells a number of a header that begins there.
func (d *draft) get(begin int, l map[string]number, name string) uint64 {
	x := find(l, name)
	c := make([]byte, 8)
	if d.f.Big {
		copy(c[8-x.n:], d.b[begin+x.at:][:x.n])
		return binary.BigEndian.Uint64(c)
	}
	copy(c, d.b[begin+x.at:][:x.n])
	return binary.LittleEndian.Uint64(c)
}

// copied tells a draft that shares no memory.
func (d *draft) copied() *draft {
	c := *d
	c.b = bytes.Clone(d.b)
	return &c
}

// ordinary tells a file with all kinds of program headers, new each time, and its image; no two of its numbers stand for one another.
func ordinary(f api.Form) (*draft, api.Image) {
	l := layoutOf(f)
	base := top(f)/2 + 1
	tail := uint64(l.header + 6*l.prog)
	d := blank(f, 6, int(tail)+100)
	copy(d.b[tail:], fill(100, 1))
	d.head("type", 3)
	d.head("machine", 62)
	d.head("entry", base+77)
	d.head("flags", 0x01020304)
	d.load(0, tail+1, 9, base+0x3000, 12, 5)
	d.load(1, tail+3, 4, 2, 4, 0x80000001)
	d.prog(1, "type", otherSeg)
	d.load(2, tail+90, 10, base+0x1000, 7, 6)
	d.load(3, 0, 5, base+0x3000, base-0x3000, 0xffffffff)
	d.load(4, tail+5, 0, base+0x5000, 8, 0)
	d.load(5, top(f), top(f), 3, 1, 9)
	d.prog(5, "type", 0)
	for i := range 6 {
		d.prog(i, "paddr", base+uint64(i))
		d.prog(i, "align", uint64(3+i))
	}
	return d, of(base+77,
		region(base+0x3000, 12, 5, fill(9, 2)...),
		region(base+0x1000, 7, 6, fill(10, 91)...),
		region(base+0x3000, base-0x3000, 0xffffffff, d.b[0], d.b[1], d.b[2], d.b[3], d.b[4]),
		region(base+0x5000, 8, 0))
}

// told tells a file's image by the chapter's words, with a reading of numbers of its own; layer 4 has a reference of its own. Not, if there is none.
func told(b []byte) (api.Image, bool) {
	h, err := head.Get(b)
	if err != nil {
		return api.Image{}, false
	}
	d := &draft{b: b, f: h.Ident.Form}
	l := layoutOf(d.f)
	number := func(name string) uint64 { return d.get(0, l.headNumbers, name) }
	n, phoff := number("phnum"), number("phoff")
	if n == 65535 {
		return api.Image{}, false
	}
	x := of(number("entry"))
	for i := range n {
		if !has(b, phoff, n*uint64(l.prog)) {
			return api.Image{}, false
		}
		at := int(phoff) + int(i)*l.prog
		number := func(name string) uint64 { return d.get(at, l.progNumbers, name) }
		if number("type") != 1 {
			continue
		}
		off, size := number("off"), number("filesz")
		r := api.Region{Addr: number("vaddr"), Size: number("memsz"), Flags: uint32(number("flags"))}
		if size != 0 && !has(b, off, size) {
			return api.Image{}, false
		}
		for k := range size {
			r.Bytes = append(r.Bytes, b[off+k])
		}
		x.Regions = append(x.Regions, r)
	}
	return x, true
}

// has tells whether bytes have so many from at on.
func has(b []byte, at, n uint64) bool {
	end, over := bits.Add64(at, n, 0)
	return over == 0 && end <= uint64(len(b))
}

// agree holds what File answers against the reference.
func agree(t *testing.T, b []byte) {
	t.Helper()
	if want, ok := told(b); ok {
		tells(t, b, want)
	} else {
		refuses(t, b)
	}
}

// tells holds that File answers this image.
func tells(t *testing.T, b []byte, want api.Image) {
	t.Helper()
	if x, err := image.File(b); err != nil || !same(x, want) {
		t.Errorf("%v, %s, not %s", err, brief(x), brief(want))
	}
}

// refuses holds that File answers ErrForm, itself, and no image.
func refuses(t *testing.T, b []byte) {
	t.Helper()
	x, err := image.File(b)
	if code, ok := err.(api.Code); !ok || code != api.ErrForm {
		t.Errorf("%v (%T), %s, not ErrForm", err, err, brief(x))
	}
	if x.Entry != 0 || len(x.Regions) != 0 {
		t.Errorf("an image beside an error: %s", brief(x))
	}
}

// brief tells an image with few of its regions and bytes, for there may be very many.
func brief(x api.Image) string {
	s := fmt.Sprintf("Entry %d, %d regions:", x.Entry, len(x.Regions))
	for _, r := range x.Regions[:min(10, len(x.Regions))] {
		s += fmt.Sprintf(" {%d %d %d %d bytes: %v}", r.Addr, r.Size, r.Flags, len(r.Bytes), r.Bytes[:min(20, len(r.Bytes))])
	}
	return s
}
