package rebase_test

import (
	"bytes"
	"encoding/binary"
	"fmt"
	"math"
	"slices"
	"testing"

	"bezant/api"
	"bezant/model"
	"bezant/rebase"
)

// Types that mean nothing to this layer.
const (
	otherSeg = 4
	otherSec = 1
)

// base is where the loaded segment of a model begins that lay tells.
const base = 0x10000

// forms tells both classes in both orders.
func forms() []api.Form {
	return []api.Form{{}, {Big: true}, {Wide: true}, {Wide: true, Big: true}}
}

// each runs a test of both classes in both orders.
func each(t *testing.T, test func(t *testing.T, f api.Form)) {
	for _, f := range forms() {
		t.Run(fmt.Sprintf("%+v", f), func(t *testing.T) { test(t, f) })
	}
}

// top tells the greatest number of a class.
func top(f api.Form) uint64 {
	if f.Wide {
		return math.MaxUint64
	}
	return math.MaxUint32
}

// far tells how far to move so that each byte of a word becomes another one, as long as nothing is carried to it.
func far(f api.Form) uint64 {
	if f.Wide {
		return 0x123456789abcdef0
	}
	return 0x12345670
}

// width tells how many bytes a word has.
func width(f api.Form) int {
	if f.Wide {
		return 8
	}
	return 4
}

// own tells a place that has these bytes as its own.
func own(b ...byte) api.Place { return api.Place{In: -1, Size: uint64(len(b)), Own: b} }

// in tells a place in a segment.
func in(i int, off, size uint64) api.Place { return api.Place{In: i, Off: off, Size: size} }

// load tells a segment of Type Load.
func load(vaddr, memsz uint64, b ...byte) api.Seg {
	return api.Seg{Type: api.Load, Flags: 6, Vaddr: vaddr, Memsz: memsz, At: own(b...)}
}

// fill tells n bytes, none of them 0, and neighbours other ones.
func fill(n, first int) []byte {
	b := make([]byte, n)
	for i := range b {
		b[i] = byte((first+i)%255 + 1)
	}
	return b
}

// word tells a number's bytes, of the class's size.
func word(f api.Form, v uint64) []byte {
	if f.Big {
		return binary.BigEndian.AppendUint64(nil, v)[8-width(f):]
	}
	return binary.LittleEndian.AppendUint64(nil, v)[:width(f)]
}

// number tells the number of a word's bytes.
func number(f api.Form, b []byte) uint64 {
	c := make([]byte, 8)
	if f.Big {
		copy(c[8-width(f):], b[:width(f)])
		return binary.BigEndian.Uint64(c)
	}
	copy(c, b[:width(f)])
	return binary.LittleEndian.Uint64(c)
}

// relative tells the Type of relocations that are relative on a Machine.
func relative(machine uint16) uint32 {
	if machine == 183 {
		return 1027
	}
	return 8
}

// relBytes tells relocations' bytes.
func relBytes(f api.Form, adds bool, l []api.Rel) []byte {
	var b []byte
	for _, r := range l {
		both := uint64(r.Sym)<<8 | uint64(r.Type)
		if f.Wide {
			both = uint64(r.Sym)<<32 | uint64(r.Type)
		}
		b = slices.Concat(b, word(f, r.Off), word(f, both))
		if adds {
			b = append(b, word(f, uint64(r.Add))...)
		}
	}
	return b
}

// dynBytes tells entries' bytes, without one of Tag 0.
func dynBytes(f api.Form, l []api.Dyn) []byte {
	var b []byte
	for _, e := range l {
		b = slices.Concat(b, word(f, e.Tag), word(f, e.Val))
	}
	return b
}

// at tells relative relocations of Machine 3 and 62, of these Offs.
func at(offs ...uint64) []api.Rel {
	var l []api.Rel
	for i, v := range offs {
		l = append(l, api.Rel{Off: v, Sym: uint32(i), Type: 8})
	}
	return l
}

// laid is a model with one loaded segment, and where things begin among its bytes; segment 1 is that of its entries.
type laid struct {
	api.Model
	with, without, entries int
}

// lay tells a model of a loaded segment at base: bytes, relocations with Add, ones without, and entries: 7 and 8 tell of the ones, 17 and 18 of the others, then these, and one of Tag 0.
func lay(f api.Form, data []byte, with, without []api.Rel, more ...api.Dyn) laid {
	a, b := relBytes(f, true, with), relBytes(f, false, without)
	x := laid{with: len(data), without: len(data) + len(a), entries: len(data) + len(a) + len(b)}
	l := []api.Dyn{
		{Tag: 7, Val: base + uint64(x.with)}, {Tag: 8, Val: uint64(len(a))}, {Tag: 17, Val: base + uint64(x.without)}, {Tag: 18, Val: uint64(len(b))},
	}
	e := dynBytes(f, append(append(l, more...), api.Dyn{}))
	all := slices.Concat(data, a, b, e)
	x.Model = api.Model{
		Ident: api.Ident{Form: f, OSABI: 3, ABI: 1}, Type: 3, Machine: 62, Flags: 5, Entry: base + 4,
		Segs: []api.Seg{
			load(base, uint64(len(all))+64, all...),
			{Type: api.Dynamic, Flags: 6, Vaddr: base + uint64(x.entries), Memsz: uint64(len(e)), Align: 4, At: in(0, uint64(x.entries), uint64(len(e)))},
		},
	}
	return x
}

// tag tells where among the bytes Tag of an entry is; the first of more is number 4.
func (x laid) tag(i int) int { return x.entries + 2*i*width(x.Ident.Form) }

// val tells where among the bytes Val of an entry is.
func (x laid) val(i int) int { return x.tag(i) + width(x.Ident.Form) }

// bytes tells all bytes of the loaded segment.
func (x laid) bytes() []byte { return x.Segs[0].At.Own }

// set lays a word among the bytes.
func (x laid) set(at int, v uint64) { copy(x.bytes()[at:], word(x.Ident.Form, v)) }

// get tells a word among the bytes.
func (x laid) get(at int) uint64 { return number(x.Ident.Form, x.bytes()[at:]) }

// tables tells the words that are moved of each such model: Val of the entries of Tag 7 and 17.
func (x laid) tables() []int { return []int{x.val(0), x.val(2)} }

// further tells a model that shares no memory, with d added to its numbers, but to none of its words.
func further(m api.Model, d uint64) api.Model {
	m = clone(m)
	if m.Entry != 0 {
		m.Entry += d
	}
	for i := range m.Segs {
		m.Segs[i].Vaddr += d
	}
	for i := range m.Secs {
		if m.Secs[i].Flags/2%2 == 1 {
			m.Secs[i].Addr += d
		}
	}
	return m
}

// moves holds that just these words of segment 0 are moved, a word that is named twice by twice as much.
func moves(t *testing.T, m api.Model, words ...int) {
	t.Helper()
	for _, d := range []uint64{0, 16, 0xfff0, far(m.Ident.Form)} {
		want := further(m, d)
		for _, at := range words {
			b := want.Segs[0].At.Own[at:]
			copy(b, word(m.Ident.Form, number(m.Ident.Form, b)+d))
		}
		is(t, m, d, want)
	}
}

// is holds that Rebase answers this model, and that the reference and the promises agree with it.
func is(t *testing.T, m api.Model, d uint64, want api.Model) {
	t.Helper()
	n, err := rebase.Rebase(m, d)
	if err != nil || !model.Same(n, want) {
		t.Errorf("%v, %s, not %s", err, brief(n), brief(want))
	}
	agree(t, m, d)
}

// refuses holds that Rebase answers this Code, itself, and no model.
func refuses(t *testing.T, m api.Model, d uint64, want api.Code) {
	t.Helper()
	was := clone(m)
	n, err := rebase.Rebase(m, d)
	if code, ok := err.(api.Code); !ok || code != want {
		t.Errorf("%v (%T), not %v, of %s by %#x", err, err, want, brief(m), d)
	}
	if n.Segs != nil || n.Secs != nil || !model.Same(n, api.Model{}) {
		t.Errorf("a model beside an error: %s", brief(n))
	}
	if !model.Same(m, was) {
		t.Errorf("what was handed in is changed: %s", brief(was))
	}
}

// clone tells a model that shares no memory.
func clone(m api.Model) api.Model {
	m.Segs, m.Secs = slices.Clone(m.Segs), slices.Clone(m.Secs)
	for i := range m.Segs {
		m.Segs[i].At.Own = bytes.Clone(m.Segs[i].At.Own)
	}
	for i := range m.Secs {
		m.Secs[i].At.Own = bytes.Clone(m.Secs[i].At.Own)
	}
	return m
}

// brief tells a model with few of its bytes, for there may be very many.
func brief(m api.Model) string {
	s := fmt.Sprintf("%+v, Type %d, Machine %d, Entry %#x, %d segments:", m.Ident.Form, m.Type, m.Machine, m.Entry, len(m.Segs))
	for _, x := range m.Segs[:min(6, len(m.Segs))] {
		s += fmt.Sprintf(" {Type %d Vaddr %#x Memsz %#x Align %#x In %d Off %d Size %d, %d bytes: %x}", x.Type, x.Vaddr, x.Memsz, x.Align, x.At.In, x.At.Off, x.At.Size, len(x.At.Own), x.At.Own[:min(400, len(x.At.Own))])
	}
	s += fmt.Sprintf("; %d sections:", len(m.Secs))
	for _, x := range m.Secs[:min(6, len(m.Secs))] {
		s += fmt.Sprintf(" {Type %d Flags %#x Addr %#x}", x.Type, x.Flags, x.Addr)
	}
	return s
}
