package file_test

import (
	"bytes"
	"encoding/binary"
	"fmt"
	"math"
	"testing"

	"bezant/api"
	"bezant/file"
	"bezant/model"
	"bezant/plan"
)

// Types that mean nothing to this layer.
const (
	otherSeg = 4
	otherSec = 1
)

// forms tells both classes in both orders.
func forms() []api.Form {
	return []api.Form{{}, {Big: true}, {Wide: true}, {Wide: true, Big: true}}
}

// each runs a test of both classes in both orders.
func each(t *testing.T, test func(t *testing.T, f api.Form)) {
	for _, f := range forms() {
		t.Run(fmt.Sprintf("%+v", f), func(t *testing.T) { test(t, f) })
	}
}

// bitsOf tells how many bits an address of a class has.
func bitsOf(f api.Form) int {
	if f.Wide {
		return 64
	}
	return 32
}

// top tells the greatest number of a class.
func top(f api.Form) uint64 { return math.MaxUint64 >> (64 - bitsOf(f)) }

// own tells a place that has these bytes as its own.
func own(b ...byte) api.Place { return api.Place{In: -1, Size: uint64(len(b)), Own: b} }

// text tells a place that has a text's bytes as its own.
func text(s string) api.Place { return own([]byte(s)...) }

// in tells a place in a segment.
func in(i int, off, size uint64) api.Place { return api.Place{In: i, Off: off, Size: size} }

// fill tells n bytes, none of them 0, and neighbours other ones.
func fill(n, first int) []byte {
	b := make([]byte, n)
	for i := range b {
		b[i] = byte((first+i)%255 + 1)
	}
	return b
}

// load tells a segment of Type Load that has these bytes, and as many in memory.
func load(vaddr, align uint64, b ...byte) api.Seg {
	return api.Seg{Type: api.Load, Vaddr: vaddr, Memsz: uint64(len(b)), Align: align, At: own(b...)}
}

// other tells a segment of another Type.
func other(p api.Place) api.Seg { return api.Seg{Type: otherSeg, At: p} }

// sec tells a section with bytes.
func sec(p api.Place) api.Sec { return api.Sec{Type: otherSec, Size: p.Size, At: p} }

// of tells a model of a form that has these segments, and no sections.
func of(f api.Form, l ...api.Seg) api.Model { return api.Model{Ident: api.Ident{Form: f}, Segs: l} }

// with tells a model with these sections, too.
func with(m api.Model, l ...api.Sec) api.Model {
	m.Secs = l
	return m
}

// many tells a model of so many segments and sections of one byte each.
func many(f api.Form, segs, secs int) api.Model {
	m := of(f)
	for i := range segs {
		m.Segs = append(m.Segs, load(uint64(2*i), 1, byte(i+1)))
	}
	for i := range secs {
		m.Secs = append(m.Secs, sec(own(byte(100+i))))
	}
	return m
}

// ordinary tells a model that may be, with all kinds of segments and of sections, new each time; no two of its numbers stand for one another.
func ordinary(f api.Form) api.Model {
	base := uint64(1) << (bitsOf(f) - 4)
	return api.Model{
		Ident: api.Ident{Form: f, OSABI: 3, ABI: 1}, Type: 3, Machine: 62, Flags: 0x01020304, Entry: base + 6,
		Segs: []api.Seg{
			{Type: api.Dynamic, Flags: 6, Vaddr: base + 0x1004, Paddr: base + 0x77, Memsz: 4, Align: 8, At: in(2, 1, 4)},
			{Type: api.Load, Flags: 5, Vaddr: base + 5, Paddr: base + 0x99, Memsz: 20, Align: 64, At: own(fill(10, 10)...)},
			{Type: api.Load, Flags: 6, Vaddr: base + 0x1003, Memsz: 7, At: own(fill(7, 30)...)},
			{Type: otherSeg, Flags: 4, Memsz: 3, Align: 4, At: own(fill(5, 40)...)},
			{Type: api.Load, Flags: 7, Vaddr: base + 0x2000, Memsz: 8, Align: 8, At: own()},
			{Type: 0x6474e551, Flags: 0x80000006, Vaddr: 5, Align: 16, At: own()},
		},
		Secs: []api.Sec{
			{Name: 1, Type: otherSec, Flags: 6, Addr: base + 7, Size: 6, Info: 0x01020305, Align: 16, At: in(1, 2, 6)},
			{Name: 4, Type: api.StrTab, Size: 12, Align: 1, At: text("\x00.text\x00.bss\x00")},
			{Name: 7, Type: api.NoBits, Flags: 3, Addr: base + 0x2000, Size: base + 8, Align: 32, At: own()},
			{Size: 77, Flags: base, At: own()},
			{Type: api.SymTab, Size: 9, Link: 2, Info: 1, Align: 64, Entsize: 24, At: own(fill(9, 50)...)},
			{Type: api.Rela, Link: 5, Entsize: base + 1, At: own()},
		},
		Str: 2,
	}
}

// models tells models that may be, of many kinds, new each time.
func models(f api.Form) []api.Model {
	named := with(of(f), api.Sec{Name: 2, Type: api.StrTab, Size: 3, At: text("\x00a\x00")}, api.Sec{Name: 1, At: own()})
	named.Str = 1
	bare := of(f)
	bare.Entry, bare.Type, bare.Machine, bare.Flags = top(f), 65535, 65534, math.MaxUint32
	bare.Ident.OSABI, bare.Ident.ABI = 255, 254
	return []api.Model{
		of(f), bare, ordinary(f), named,
		many(f, 16, 64), many(f, 16, 0), many(f, 0, 64), many(f, 1, 1), many(f, 7, 9),
		of(f, load(0, 0)), of(f, other(own())), with(of(f), sec(own())), with(of(f, load(9, 4)), sec(own())),
		of(f, other(in(1, 1, 2)), load(3, 4096, 1, 2, 3), other(in(1, 0, 3))),
	}
}

// number is a number of a header: where it stands, from the header's first byte on, and how many bytes it has.
type number struct{ at, n int }

// layout tells how a class lays its headers: how many bytes they have, and their numbers by names.
type layout struct {
	header, prog, sect                    int
	headNumbers, progNumbers, sectNumbers map[string]number
}

var wide = layout{64, 56, 64,
	map[string]number{
		"type": {16, 2}, "machine": {18, 2}, "version": {20, 4}, "entry": {24, 8}, "phoff": {32, 8}, "shoff": {40, 8}, "flags": {48, 4},
		"headsize": {52, 2}, "progsize": {54, 2}, "phnum": {56, 2}, "sectsize": {58, 2}, "shnum": {60, 2}, "str": {62, 2},
	},
	map[string]number{
		"type": {0, 4}, "flags": {4, 4}, "off": {8, 8}, "vaddr": {16, 8}, "paddr": {24, 8}, "filesz": {32, 8}, "memsz": {40, 8}, "align": {48, 8},
	},
	map[string]number{
		"name": {0, 4}, "type": {4, 4}, "flags": {8, 8}, "addr": {16, 8}, "off": {24, 8},
		"size": {32, 8}, "link": {40, 4}, "info": {44, 4}, "align": {48, 8}, "entsize": {56, 8},
	},
}

var narrow = layout{52, 32, 40,
	map[string]number{
		"type": {16, 2}, "machine": {18, 2}, "version": {20, 4}, "entry": {24, 4}, "phoff": {28, 4}, "shoff": {32, 4}, "flags": {36, 4},
		"headsize": {40, 2}, "progsize": {42, 2}, "phnum": {44, 2}, "sectsize": {46, 2}, "shnum": {48, 2}, "str": {50, 2},
	},
	map[string]number{
		"type": {0, 4}, "off": {4, 4}, "vaddr": {8, 4}, "paddr": {12, 4}, "filesz": {16, 4}, "memsz": {20, 4}, "flags": {24, 4}, "align": {28, 4},
	},
	map[string]number{
		"name": {0, 4}, "type": {4, 4}, "flags": {8, 4}, "addr": {12, 4}, "off": {16, 4},
		"size": {20, 4}, "link": {24, 4}, "info": {28, 4}, "align": {32, 4}, "entsize": {36, 4},
	},
}

func layoutOf(f api.Form) layout {
	if f.Wide {
		return wide
	}
	return narrow
}

// draft is a file that a test may alter, number by number; its tables stand where it says, whatever its header tells.
type draft struct {
	b            []byte
	f            api.Form
	phoff, shoff int
}

// at tells where a number of the header stands.
func (d *draft) at(name string) int { return layoutOf(d.f).headNumbers[name].at }

// progAt tells where a program header stands.
func (d *draft) progAt(i int) int { return d.phoff + i*layoutOf(d.f).prog }

// sectAt tells where a section header stands; the first one is 0.
func (d *draft) sectAt(i int) int { return d.shoff + i*layoutOf(d.f).sect }

// head alters a number of the header.
func (d *draft) head(name string, v uint64) { d.set(0, layoutOf(d.f).headNumbers, name, v) }

// prog alters a number of a program header.
func (d *draft) prog(i int, name string, v uint64) {
	d.set(d.progAt(i), layoutOf(d.f).progNumbers, name, v)
}

// sect alters a number of a section header.
func (d *draft) sect(i int, name string, v uint64) {
	d.set(d.sectAt(i), layoutOf(d.f).sectNumbers, name, v)
}

func (d *draft) set(begin int, l map[string]number, name string, v uint64) {
	x, ok := l[name]
	if !ok {
		panic("no number " + name)
	}
	at := d.b[begin+x.at:][:x.n]
	if d.f.Big {
		copy(at, binary.BigEndian.AppendUint64(nil, v)[8-x.n:])
	} else {
		copy(at, binary.LittleEndian.AppendUint64(nil, v)[:x.n])
	}
}

// get tells a number of a header that begins there.
func (d *draft) get(begin int, l map[string]number, name string) uint64 {
	x, ok := l[name]
	if !ok {
		panic("no number " + name)
	}
	c := make([]byte, 8)
	if d.f.Big {
		copy(c[8-x.n:], d.b[begin+x.at:][:x.n])
		return binary.BigEndian.Uint64(c)
	}
	copy(c, d.b[begin+x.at:][:x.n])
	return binary.LittleEndian.Uint64(c)
}

// copied tells a draft that shares no memory.
func (d *draft) copied() *draft {
	c := *d
	c.b = bytes.Clone(d.b)
	return &c
}

// lay tells a model's file by the chapter's words; only where everything stands is layer 15's.
func lay(t *testing.T, m api.Model) *draft {
	t.Helper()
	p, err := plan.Of(m)
	if err != nil {
		t.Fatal(err)
	}
	d := &draft{make([]byte, p.Size), m.Ident.Form, int(p.Phoff), int(p.Shoff)}
	d.layHead(m, p)
	for i, s := range m.Segs {
		d.laySeg(i, s, p.Segs[i])
	}
	for i, s := range m.Secs {
		d.laySec(i, s, p.Secs[i])
	}
	return d
}

func (d *draft) layHead(m api.Model, p plan.Plan) {
	class, order := byte(1), byte(1)
	if d.f.Wide {
		class = 2
	}
	if d.f.Big {
		order = 2
	}
	copy(d.b, []byte{127, 69, 76, 70, class, order, 1, m.Ident.OSABI, m.Ident.ABI})
	l := layoutOf(d.f)
	d.head("type", uint64(m.Type))
	d.head("machine", uint64(m.Machine))
	d.head("version", 1)
	d.head("entry", m.Entry)
	d.head("phoff", p.Phoff)
	d.head("shoff", p.Shoff)
	d.head("flags", uint64(m.Flags))
	d.head("headsize", uint64(l.header))
	if len(m.Segs) > 0 {
		d.head("progsize", uint64(l.prog))
		d.head("phnum", uint64(len(m.Segs)))
	}
	if len(m.Secs) > 0 {
		d.head("sectsize", uint64(l.sect))
		d.head("shnum", uint64(len(m.Secs)+1))
	}
	d.head("str", uint64(m.Str))
}

func (d *draft) laySeg(i int, s api.Seg, off uint64) {
	d.prog(i, "type", uint64(s.Type))
	d.prog(i, "flags", uint64(s.Flags))
	d.prog(i, "off", off)
	d.prog(i, "vaddr", s.Vaddr)
	d.prog(i, "paddr", s.Paddr)
	d.prog(i, "filesz", s.At.Size)
	d.prog(i, "memsz", s.Memsz)
	d.prog(i, "align", s.Align)
	if s.At.In == -1 {
		copy(d.b[off:], s.At.Own)
	}
}

func (d *draft) laySec(i int, s api.Sec, off uint64) {
	d.sect(i+1, "name", uint64(s.Name))
	d.sect(i+1, "type", uint64(s.Type))
	d.sect(i+1, "flags", s.Flags)
	d.sect(i+1, "addr", s.Addr)
	d.sect(i+1, "off", off)
	d.sect(i+1, "size", s.Size)
	d.sect(i+1, "link", uint64(s.Link))
	d.sect(i+1, "info", uint64(s.Info))
	d.sect(i+1, "align", s.Align)
	d.sect(i+1, "entsize", s.Entsize)
	if s.At.In == -1 {
		copy(d.b[off:], s.At.Own)
	}
}

// writes holds what Encode answers of a model that may be, to the byte.
func writes(t *testing.T, m api.Model) {
	t.Helper()
	b, err := file.Encode(m)
	if want := lay(t, m).b; err != nil || !bytes.Equal(b, want) {
		t.Errorf("%v, %d bytes, not %d: the first other one is %d, of %s", err, len(b), len(want), firstOther(b, want), brief(m))
	}
}

// firstOther tells the first place at which bytes are other ones.
func firstOther(a, b []byte) int {
	for i := range min(len(a), len(b)) {
		if a[i] != b[i] {
			return i
		}
	}
	return min(len(a), len(b))
}

// reads holds that Parse answers this model, field by field.
func reads(t *testing.T, b []byte, want api.Model) {
	t.Helper()
	m, err := file.Parse(b)
	if err != nil || !model.Same(m, want) {
		t.Errorf("Parse tells %s, %v, not %s", brief(m), err, brief(want))
	}
	agree(t, b)
}

// refuses holds that Parse answers this error, as a Spot, and no model.
func refuses(t *testing.T, b []byte, at int, code api.Code) {
	t.Helper()
	m, err := file.Parse(b)
	spot, ok := err.(*api.Spot)
	if !ok || *spot != (api.Spot{At: at, Code: code}) {
		t.Errorf("%v, not %v at %d", err, code, at)
	}
	if !isZero(m) {
		t.Errorf("a model beside an error: %s", brief(m))
	}
	agree(t, b)
}

// isZero tells whether a model is the zero value; lists of no elements may be any.
func isZero(m api.Model) bool {
	return model.Same(m, api.Model{})
}

// brief tells a model with few of its bytes, for there may be very many.
func brief(m api.Model) string {
	m.Segs, m.Secs = append([]api.Seg{}, m.Segs...), append([]api.Sec{}, m.Secs...)
	for i := range m.Segs {
		m.Segs[i].At.Own = m.Segs[i].At.Own[:min(20, len(m.Segs[i].At.Own))]
	}
	for i := range m.Secs {
		m.Secs[i].At.Own = m.Secs[i].At.Own[:min(20, len(m.Secs[i].At.Own))]
	}
	return fmt.Sprintf("%+v", m)
}
