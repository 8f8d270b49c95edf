package prog_test

import (
	"bytes"
	"encoding/binary"
	"errors"
	"math"
	"slices"
	"testing"

	"bezant/api"
	"bezant/prog"
)

const top uint64 = math.MaxUint64

var forms = []api.Form{{}, {Big: true}, {Wide: true}, {Wide: true, Big: true}}

// hold is what stands ahead of, and behind, a header that is read from the middle.
const hold = 0xee

// field tells where a class has a number, and how many bytes it has there.
type field struct {
	name  string
	at, n int
	get   func(api.Prog) uint64
	set   func(*api.Prog, uint64)
}

// fields tells all of them by hand: where each stands is written out, not added up.
func fields(f api.Form) []field {
	all := []field{
		{"Type", 0, 4, func(p api.Prog) uint64 { return uint64(p.Type) }, func(p *api.Prog, v uint64) { p.Type = uint32(v) }},
		{"Flags", 24, 4, func(p api.Prog) uint64 { return uint64(p.Flags) }, func(p *api.Prog, v uint64) { p.Flags = uint32(v) }},
		{"Off", 4, 4, func(p api.Prog) uint64 { return p.Off }, func(p *api.Prog, v uint64) { p.Off = v }},
		{"Vaddr", 8, 4, func(p api.Prog) uint64 { return p.Vaddr }, func(p *api.Prog, v uint64) { p.Vaddr = v }},
		{"Paddr", 12, 4, func(p api.Prog) uint64 { return p.Paddr }, func(p *api.Prog, v uint64) { p.Paddr = v }},
		{"Filesz", 16, 4, func(p api.Prog) uint64 { return p.Filesz }, func(p *api.Prog, v uint64) { p.Filesz = v }},
		{"Memsz", 20, 4, func(p api.Prog) uint64 { return p.Memsz }, func(p *api.Prog, v uint64) { p.Memsz = v }},
		{"Align", 28, 4, func(p api.Prog) uint64 { return p.Align }, func(p *api.Prog, v uint64) { p.Align = v }},
	}
	if !f.Wide {
		return all
	}
	for i, at := range []int{0, 4, 8, 16, 24, 32, 40, 48} {
		all[i].at = at
		if i > 1 {
			all[i].n = 8
		}
	}
	return all
}

// addresses tells those of the fields that may have more than 4 bytes.
func addresses(f api.Form) []field { return fields(f)[2:] }

func sizeOf(f api.Form) int {
	if f.Wide {
		return 56
	}
	return 32
}

// bytesOf tells a number's bytes by the library.
func bytesOf(v uint64, n int, big bool) []byte {
	if big {
		return binary.BigEndian.AppendUint64(nil, v)[8-n:]
	}
	return binary.LittleEndian.AppendUint64(nil, v)[:n]
}

// numberOf tells the number of bytes by the library.
func numberOf(b []byte, big bool) uint64 {
	c := make([]byte, 8)
	if big {
		copy(c[8-len(b):], b)
		return binary.BigEndian.Uint64(c)
	}
	copy(c, b)
	return binary.LittleEndian.Uint64(c)
}

// reference tells the bytes of a program header that may be.
func reference(p api.Prog, f api.Form) []byte {
	b := make([]byte, sizeOf(f))
	for _, x := range fields(f) {
		copy(b[x.at:], bytesOf(x.get(p), x.n, f.Big))
	}
	return b
}

// told tells the program header that so many bytes are.
func told(b []byte, f api.Form) api.Prog {
	var p api.Prog
	for _, x := range fields(f) {
		x.set(&p, numberOf(b[x.at:x.at+x.n], f.Big))
	}
	return p
}

// full tells one whose bytes are all other ones, in all of their places.
func full(f api.Form) api.Prog {
	if f.Wide {
		return api.Prog{
			Type: 0xa1a2a3a4, Flags: 0xb1b2b3b4,
			Off: 0x0102030405060708, Vaddr: 0x1112131415161718, Paddr: 0x2122232425262728,
			Filesz: 0x3132333435363738, Memsz: 0x4142434445464748, Align: 0xf1f2f3f4f5f6f7f8,
		}
	}
	return api.Prog{
		Type: 0xa1a2a3a4, Flags: 0xb1b2b3b4,
		Off: 0x01020304, Vaddr: 0x11121314, Paddr: 0x21222324,
		Filesz: 0x31323334, Memsz: 0x41424344, Align: 0xf1f2f3f4,
	}
}

// checkPut holds Put against the reference, and the first half of P5.3.
func checkPut(t *testing.T, p api.Prog, f api.Form) {
	t.Helper()
	b, err := prog.Put(p, f)
	if err != nil || !bytes.Equal(b, reference(p, f)) {
		t.Errorf("Put(%v, %v) = %v, %v, not %v", p, f, b, err, reference(p, f))
		return
	}
	if x, err := prog.Get(b, 0, f); err != nil || x != p {
		t.Errorf("P5.3: %v of %v is got as %v, %v", p, f, x, err)
	}
}

// checkArg holds the error, that it is the Code itself, and R3.
func checkArg(t *testing.T, p api.Prog, f api.Form) {
	t.Helper()
	if b, err := prog.Put(p, f); err != api.ErrArg || len(b) != 0 {
		t.Errorf("Put(%v, %v) = %v, %v, not ErrArg", p, f, b, err)
	}
}

// checkShort holds the error, that it is the Code itself, and R3.
func checkShort(t *testing.T, b []byte, at uint64, f api.Form) {
	t.Helper()
	if p, err := prog.Get(b, at, f); err != api.ErrShort || p != (api.Prog{}) {
		t.Errorf("Get of %d bytes, %d, %v = %v, %v, not ErrShort", len(b), at, f, p, err)
	}
}

// checkGet holds Get against the chapter's words, and the second half of P5.3.
func checkGet(t *testing.T, b []byte, at uint64, f api.Form) {
	t.Helper()
	n := uint64(sizeOf(f))
	if at > uint64(len(b)) || uint64(len(b))-at < n {
		checkShort(t, b, at, f)
		return
	}
	want := b[at : at+n]
	p, err := prog.Get(b, at, f)
	if err != nil || p != told(want, f) {
		t.Errorf("Get(%v, %d, %v) = %v, %v, not %v", b, at, f, p, err, told(want, f))
		return
	}
	if c, err := prog.Put(p, f); err != nil || !bytes.Equal(c, want) {
		t.Errorf("P5.3: %v of %v, got and put, is %v, %v", want, f, c, err)
	}
}

func TestP5_1Size(t *testing.T) {
	for _, f := range forms {
		if n := prog.Size(f); n != sizeOf(f) {
			t.Errorf("Size(%v) = %d", f, n)
		}
	}
}

// byHand holds the bytes themselves, so that the reference isn't all that holds them.
var byHand = map[api.Form][]byte{
	{}: {
		0xa4, 0xa3, 0xa2, 0xa1,
		0x04, 0x03, 0x02, 0x01, 0x14, 0x13, 0x12, 0x11, 0x24, 0x23, 0x22, 0x21,
		0x34, 0x33, 0x32, 0x31, 0x44, 0x43, 0x42, 0x41,
		0xb4, 0xb3, 0xb2, 0xb1,
		0xf4, 0xf3, 0xf2, 0xf1,
	},
	{Big: true}: {
		0xa1, 0xa2, 0xa3, 0xa4,
		0x01, 0x02, 0x03, 0x04, 0x11, 0x12, 0x13, 0x14, 0x21, 0x22, 0x23, 0x24,
		0x31, 0x32, 0x33, 0x34, 0x41, 0x42, 0x43, 0x44,
		0xb1, 0xb2, 0xb3, 0xb4,
		0xf1, 0xf2, 0xf3, 0xf4,
	},
	{Wide: true}: {
		0xa4, 0xa3, 0xa2, 0xa1, 0xb4, 0xb3, 0xb2, 0xb1,
		0x08, 0x07, 0x06, 0x05, 0x04, 0x03, 0x02, 0x01, 0x18, 0x17, 0x16, 0x15, 0x14, 0x13, 0x12, 0x11,
		0x28, 0x27, 0x26, 0x25, 0x24, 0x23, 0x22, 0x21, 0x38, 0x37, 0x36, 0x35, 0x34, 0x33, 0x32, 0x31,
		0x48, 0x47, 0x46, 0x45, 0x44, 0x43, 0x42, 0x41, 0xf8, 0xf7, 0xf6, 0xf5, 0xf4, 0xf3, 0xf2, 0xf1,
	},
	{Wide: true, Big: true}: {
		0xa1, 0xa2, 0xa3, 0xa4, 0xb1, 0xb2, 0xb3, 0xb4,
		0x01, 0x02, 0x03, 0x04, 0x05, 0x06, 0x07, 0x08, 0x11, 0x12, 0x13, 0x14, 0x15, 0x16, 0x17, 0x18,
		0x21, 0x22, 0x23, 0x24, 0x25, 0x26, 0x27, 0x28, 0x31, 0x32, 0x33, 0x34, 0x35, 0x36, 0x37, 0x38,
		0x41, 0x42, 0x43, 0x44, 0x45, 0x46, 0x47, 0x48, 0xf1, 0xf2, 0xf3, 0xf4, 0xf5, 0xf6, 0xf7, 0xf8,
	},
}

func TestP5_1ByHand(t *testing.T) {
	for f, want := range byHand {
		if b, err := prog.Put(full(f), f); err != nil || !bytes.Equal(b, want) {
			t.Errorf("Put of %v = %v, %v", f, b, err)
		}
		if p, err := prog.Get(want, 0, f); err != nil || p != full(f) {
			t.Errorf("Get of %v = %v, %v", f, p, err)
		}
	}
}

// TestP5_1FlagsPlace is the chapter's example: of 32 bits Flags stands behind Memsz, of 64 behind Type.
func TestP5_1FlagsPlace(t *testing.T) {
	for _, f := range forms {
		want := make([]byte, sizeOf(f))
		at := 24
		if f.Wide {
			at = 4
		}
		copy(want[at:], []byte{9, 9, 9, 9})
		if b, err := prog.Put(api.Prog{Flags: 0x09090909}, f); err != nil || !bytes.Equal(b, want) {
			t.Errorf("Flags alone, of %v: %v, %v", f, b, err)
		}
		if p, err := prog.Get(want, 0, f); err != nil || p != (api.Prog{Flags: 0x09090909}) {
			t.Errorf("the bytes of Flags alone, of %v: %v, %v", f, p, err)
		}
	}
}

func TestP5_1Nothing(t *testing.T) {
	for _, f := range forms {
		checkPut(t, api.Prog{}, f)
		checkGet(t, make([]byte, sizeOf(f)), 0, f)
	}
}

// TestP5_1EachNumberAlone sets each number to each power of two, and to those next to it, that it has the bytes for.
func TestP5_1EachNumberAlone(t *testing.T) {
	for _, f := range forms {
		for _, x := range fields(f) {
			for bit := range 8 * x.n {
				for _, v := range []uint64{1<<bit - 1, 1 << bit, 1<<bit | 1, top >> (64 - 8*x.n) &^ (1 << bit)} {
					var alone api.Prog
					x.set(&alone, v)
					checkPut(t, alone, f)
					among := full(f)
					x.set(&among, v)
					checkPut(t, among, f)
				}
			}
			most := full(f)
			x.set(&most, top>>(64-8*x.n))
			checkPut(t, most, f)
		}
	}
}

// TestP5_1EachByteAlone reads each byte as all of 0 to 255, with nothing and with all bits set around it.
func TestP5_1EachByteAlone(t *testing.T) {
	for _, f := range forms {
		for _, around := range []byte{0, 255} {
			b := bytes.Repeat([]byte{around}, sizeOf(f))
			for i := range b {
				for v := range 256 {
					b[i] = byte(v)
					checkGet(t, b, 0, f)
				}
				b[i] = around
			}
		}
	}
}

func TestP5_1NoLongerFits(t *testing.T) {
	for _, f := range []api.Form{{}, {Big: true}} {
		for _, x := range addresses(f) {
			for _, base := range []api.Prog{{}, full(f)} {
				for bit := 32; bit < 64; bit++ {
					for _, v := range []uint64{1 << bit, 1<<bit | 1, 1<<bit | 0xffffffff, top << bit} {
						p := base
						x.set(&p, v)
						checkArg(t, p, f)
						checkPut(t, p, api.Form{Wide: true, Big: f.Big})
					}
				}
				p := base
				x.set(&p, 1<<32-1)
				checkPut(t, p, f)
				x.set(&p, top)
				checkArg(t, p, f)
			}
		}
	}
}

// TestP5_1SeveralNoLongerFit takes each choice of the six that may be too great.
func TestP5_1SeveralNoLongerFit(t *testing.T) {
	for _, f := range forms {
		all := addresses(f)
		for choice := range 1 << len(all) {
			p := full(api.Form{})
			for i, x := range all {
				if choice>>i&1 == 1 {
					x.set(&p, 1<<32)
				}
			}
			if choice != 0 && !f.Wide {
				checkArg(t, p, f)
			} else {
				checkPut(t, p, f)
			}
		}
	}
}

// TestP5_1NumbersMeanNothing holds that nothing is asked of them but that they fit.
func TestP5_1NumbersMeanNothing(t *testing.T) {
	for _, f := range forms {
		edge := top >> (64 - 8*addresses(f)[0].n)
		for _, v := range []uint64{0, 1, 3, edge - 1, edge} {
			for _, w := range []uint64{0, 2, edge} {
				checkPut(t, api.Prog{Type: api.Load, Off: v, Vaddr: w, Filesz: v, Memsz: w, Align: 3}, f)
				checkPut(t, api.Prog{Type: math.MaxUint32, Flags: math.MaxUint32, Paddr: w, Memsz: v, Align: w}, f)
			}
		}
	}
}

// TestP5_1EachLengthFromEachPlace cuts off what is from a place on at each length, and lays bytes around it.
func TestP5_1EachLengthFromEachPlace(t *testing.T) {
	for _, f := range forms {
		n := sizeOf(f)
		for ahead := range 10 {
			for behind := range 4 {
				b := bytes.Repeat([]byte{hold}, ahead)
				b = append(b, reference(full(f), f)...)
				b = append(b, bytes.Repeat([]byte{hold}, behind)...)
				if p, err := prog.Get(b, uint64(ahead), f); err != nil || p != full(f) {
					t.Errorf("%d bytes ahead, %d behind, of %v: %v, %v", ahead, behind, f, p, err)
				}
				for have := range n {
					checkShort(t, b[:ahead+have], uint64(ahead), f)
					checkShort(t, slices.Clip(b[:ahead+have]), uint64(ahead), f)
				}
				for at := range uint64(len(b) + 3) {
					checkGet(t, b, at, f)
				}
			}
		}
	}
}

// TestP5_1OneBehindTheOther reads a table of program headers, one from each place, in no order.
func TestP5_1OneBehindTheOther(t *testing.T) {
	for _, f := range forms {
		var table []byte
		var all []api.Prog
		for i := range uint64(api.MaxSegs) {
			p := full(f)
			p.Type, p.Vaddr = uint32(i), i<<8
			all = append(all, p)
			b, err := prog.Put(p, f)
			if err != nil {
				t.Fatal(err)
			}
			table = append(table, b...)
		}
		for _, i := range []int{15, 0, 7, 8, 1, 14} {
			if p, err := prog.Get(table, uint64(i*prog.Size(f)), f); err != nil || p != all[i] {
				t.Errorf("header %d of %v: %v, %v", i, f, p, err)
			}
		}
		checkShort(t, table, uint64(len(table)), f)
		checkShort(t, table, uint64(len(table)-sizeOf(f)+1), f)
	}
}

func TestP5_1LengthNotCapacity(t *testing.T) {
	for _, f := range forms {
		b := append(reference(full(f), f), reference(full(f), f)...)
		checkShort(t, b[:sizeOf(f)-1], 0, f)
		checkShort(t, b[:sizeOf(f)], 1, f)
		checkShort(t, b[:sizeOf(f)], uint64(sizeOf(f)), f)
		checkShort(t, b[:0], 0, f)
		checkGet(t, b[:sizeOf(f)], 0, f)
	}
}

func TestP5_1NoBytes(t *testing.T) {
	for _, f := range forms {
		for _, at := range []uint64{0, 1, 32, 56, 1 << 32, 1 << 63, top - 56, top - 32, top} {
			checkShort(t, nil, at, f)
			checkShort(t, []byte{}, at, f)
		}
	}
}

// TestP5_1FarPlaces takes each place from which a header would wrap round, and those that look near in fewer bits.
func TestP5_1FarPlaces(t *testing.T) {
	for _, f := range forms {
		for _, size := range []int{1, 32, 55, 56, 57, 64, 200} {
			b := bytes.Repeat([]byte{hold}, size)
			for i := range uint64(300) {
				checkShort(t, b, top-i, f)
				checkShort(t, b, uint64(size)+i+1, f)
			}
			for _, near := range []uint64{0, 1, 8, uint64(size)} {
				for _, far := range []uint64{1 << 16, 1 << 31, 1 << 32, 1 << 62, 1 << 63} {
					checkShort(t, b, far+near, f)
					checkShort(t, b, far-near-1, f)
				}
			}
		}
	}
}

// TestR1ShortWhateverTheBytes holds that what is cut off is short, of each number alike.
func TestR1ShortWhateverTheBytes(t *testing.T) {
	for _, f := range forms {
		for _, v := range []byte{0, 1, 255} {
			for have := range sizeOf(f) {
				checkShort(t, bytes.Repeat([]byte{v}, have), 0, f)
			}
		}
	}
}

// TestErrorsAreCodes holds that errors.Is and errors.As find them, and that neither is a Spot.
func TestErrorsAreCodes(t *testing.T) {
	_, put := prog.Put(api.Prog{Align: 1 << 32}, api.Form{})
	_, get := prog.Get(nil, 0, api.Form{})
	for err, want := range map[error]api.Code{put: api.ErrArg, get: api.ErrShort} {
		var code api.Code
		var spot *api.Spot
		if !errors.Is(err, want) || !errors.As(err, &code) || code != want || errors.As(err, &spot) {
			t.Errorf("%v, not %v itself", err, want)
		}
	}
}

func TestP5_2PutTellsNewMemory(t *testing.T) {
	for _, f := range forms {
		want := reference(full(f), f)
		for range 3 {
			b, err := prog.Put(full(f), f)
			if err != nil || !bytes.Equal(b, want) {
				t.Errorf("once the earlier ones are spoilt: %v, %v", b, err)
			}
			all := b[:cap(b)]
			for k := range all {
				all[k] = hold
			}
		}
		first, _ := prog.Put(full(f), f)
		second, _ := prog.Put(api.Prog{}, f)
		if !bytes.Equal(first, want) || !bytes.Equal(second, make([]byte, sizeOf(f))) {
			t.Error("two answers share memory:", first, second)
		}
	}
}

func TestR2GetChangesAndKeepsNothing(t *testing.T) {
	for _, f := range forms {
		b := append([]byte{1, 2, 3}, reference(full(f), f)...)
		b = append(b, 4, 5)
		before := slices.Clone(b)
		for at := range uint64(len(b) + 2) {
			for n := range len(b) + 1 {
				prog.Get(b[:n], at, f)
			}
		}
		if !bytes.Equal(b, before) {
			t.Error("what was handed in is changed:", b)
		}
		p, err := prog.Get(b, 3, f)
		clear(b)
		if err != nil || p != full(f) {
			t.Error("what was told:", p, err)
		}
		checkGet(t, b, 3, f)
		checkGet(t, before, 3, f)
	}
}

// TestP5_3 holds that what was put is got, and that what is got, put, is those bytes, of many bytes that mean nothing.
func TestP5_3(t *testing.T) {
	for _, f := range forms {
		b := make([]byte, 600)
		v := uint32(1)
		for i := range b {
			v = v*1664525 + 1013904223
			b[i] = byte(v >> 24)
		}
		for at := range uint64(len(b)) {
			checkGet(t, b, at, f)
			if p, err := prog.Get(b, at, f); err == nil {
				checkPut(t, p, f)
			}
		}
	}
}

// TestP5_3OfTheOtherForms holds that a form says how a header is written, not what it is.
func TestP5_3OfTheOtherForms(t *testing.T) {
	p := full(api.Form{})
	for _, f := range forms {
		checkPut(t, p, f)
		b := reference(p, f)
		for _, g := range forms {
			checkGet(t, b, 0, g)
		}
	}
}

func FuzzP1GetNeverPanics(f *testing.F) {
	f.Add([]byte{}, uint64(0))
	f.Add([]byte{1}, top)
	for _, form := range forms {
		b := reference(full(form), form)
		f.Add(b, uint64(0))
		f.Add(b, uint64(1)<<63)
		f.Add(append([]byte{7}, b...), uint64(1))
	}
	f.Fuzz(func(t *testing.T, b []byte, at uint64) {
		before := bytes.Clone(b)
		for _, form := range forms {
			checkGet(t, b, at, form)
		}
		if !bytes.Equal(b, before) {
			t.Error("R2: what was handed in is changed")
		}
	})
}

func FuzzP1PutNeverPanics(f *testing.F) {
	f.Add(uint64(0), uint64(0), uint64(0), uint64(0), uint64(0), uint64(0), uint64(0))
	f.Add(top, top, top, top, top, top, top)
	f.Add(uint64(5)<<32|1, uint64(1)<<32, uint64(1)<<32-1, uint64(3), uint64(4), uint64(5), uint64(4096))
	f.Fuzz(func(t *testing.T, words, off, vaddr, paddr, filesz, memsz, align uint64) {
		p := api.Prog{
			Type: uint32(words), Flags: uint32(words >> 32),
			Off: off, Vaddr: vaddr, Paddr: paddr, Filesz: filesz, Memsz: memsz, Align: align,
		}
		for _, form := range forms {
			if !form.Wide && (off|vaddr|paddr|filesz|memsz|align)>>32 != 0 {
				checkArg(t, p, form)
			} else {
				checkPut(t, p, form)
			}
		}
	})
}
