package sect_test

import (
	"bytes"
	"encoding/binary"
	"errors"
	"math"
	"slices"
	"testing"

	"bezant/api"
	"bezant/sect"
)

const top uint64 = math.MaxUint64

var forms = []api.Form{{}, {Big: true}, {Wide: true}, {Wide: true, Big: true}}

// hold is what stands ahead of, and behind, a header that is read from the middle.
const hold = 0xee

// field tells where a class has a number, and how many bytes it has there.
type field struct {
	name  string
	at, n int
	get   func(api.Sect) uint64
	set   func(*api.Sect, uint64)
}

// fields tells all of them by hand: where each stands is written out, not added up.
func fields(f api.Form) []field {
	all := []field{
		{"Name", 0, 4, func(s api.Sect) uint64 { return uint64(s.Name) }, func(s *api.Sect, v uint64) { s.Name = uint32(v) }},
		{"Type", 4, 4, func(s api.Sect) uint64 { return uint64(s.Type) }, func(s *api.Sect, v uint64) { s.Type = uint32(v) }},
		{"Flags", 8, 4, func(s api.Sect) uint64 { return s.Flags }, func(s *api.Sect, v uint64) { s.Flags = v }},
		{"Addr", 12, 4, func(s api.Sect) uint64 { return s.Addr }, func(s *api.Sect, v uint64) { s.Addr = v }},
		{"Off", 16, 4, func(s api.Sect) uint64 { return s.Off }, func(s *api.Sect, v uint64) { s.Off = v }},
		{"Size", 20, 4, func(s api.Sect) uint64 { return s.Size }, func(s *api.Sect, v uint64) { s.Size = v }},
		{"Link", 24, 4, func(s api.Sect) uint64 { return uint64(s.Link) }, func(s *api.Sect, v uint64) { s.Link = uint32(v) }},
		{"Info", 28, 4, func(s api.Sect) uint64 { return uint64(s.Info) }, func(s *api.Sect, v uint64) { s.Info = uint32(v) }},
		{"Align", 32, 4, func(s api.Sect) uint64 { return s.Align }, func(s *api.Sect, v uint64) { s.Align = v }},
		{"Entsize", 36, 4, func(s api.Sect) uint64 { return s.Entsize }, func(s *api.Sect, v uint64) { s.Entsize = v }},
	}
	if !f.Wide {
		return all
	}
	for i, at := range []int{0, 4, 8, 16, 24, 32, 40, 44, 48, 56} {
		all[i].at = at
	}
	for _, i := range []int{2, 3, 4, 5, 8, 9} {
		all[i].n = 8
	}
	return all
}

// choose tells some of the fields.
func choose(f api.Form, numbers ...int) []field {
	all := fields(f)
	var chosen []field
	for _, i := range numbers {
		chosen = append(chosen, all[i])
	}
	return chosen
}

// addresses tells those of the fields that may have more than 4 bytes.
func addresses(f api.Form) []field { return choose(f, 2, 3, 4, 5, 8, 9) }

// words tells those of the fields that have 4 bytes in both classes.
func words(f api.Form) []field { return choose(f, 0, 1, 6, 7) }

func sizeOf(f api.Form) int {
	if f.Wide {
		return 64
	}
	return 40
}

// bytesOf tells a number's bytes by the library.
func bytesOf(v uint64, n int, big bool) []byte {
	if big {
		return binary.BigEndian.AppendUint64(nil, v)[8-n:]
	}
	return binary.LittleEndian.AppendUint64(nil, v)[:n]
}

// numberOf tells the number of bytes by the library.
func numberOf(b []byte, big bool) uint64 {
	c := make([]byte, 8)
	if big {
		copy(c[8-len(b):], b)
		return binary.BigEndian.Uint64(c)
	}
	copy(c, b)
	return binary.LittleEndian.Uint64(c)
}

// reference tells the bytes of a section header that may be.
func reference(s api.Sect, f api.Form) []byte {
	b := make([]byte, sizeOf(f))
	for _, x := range fields(f) {
		copy(b[x.at:], bytesOf(x.get(s), x.n, f.Big))
	}
	return b
}

// told tells the section header that so many bytes are.
func told(b []byte, f api.Form) api.Sect {
	var s api.Sect
	for _, x := range fields(f) {
		x.set(&s, numberOf(b[x.at:x.at+x.n], f.Big))
	}
	return s
}

// full tells one whose bytes are all other ones, in all of their places.
func full(f api.Form) api.Sect {
	s := api.Sect{
		Name: 0xa1a2a3a4, Type: 0xb1b2b3b4, Link: 0xc1c2c3c4, Info: 0xd1d2d3d4,
		Flags: 0x01020304, Addr: 0x11121314, Off: 0x21222324,
		Size: 0x31323334, Align: 0x41424344, Entsize: 0xf1f2f3f4,
	}
	if f.Wide {
		s.Flags, s.Addr, s.Off = 0x0102030405060708, 0x1112131415161718, 0x2122232425262728
		s.Size, s.Align, s.Entsize = 0x3132333435363738, 0x4142434445464748, 0xf1f2f3f4f5f6f7f8
	}
	return s
}

// checkPut holds Put against the reference, and the first half of P6.3.
func checkPut(t *testing.T, s api.Sect, f api.Form) {
	t.Helper()
	b, err := sect.Put(s, f)
	if err != nil || !bytes.Equal(b, reference(s, f)) {
		t.Errorf("Put(%v, %v) = %v, %v, not %v", s, f, b, err, reference(s, f))
		return
	}
	if x, err := sect.Get(b, 0, f); err != nil || x != s {
		t.Errorf("P6.3: %v of %v is got as %v, %v", s, f, x, err)
	}
}

// checkArg holds the error, that it is the Code itself, and R3.
func checkArg(t *testing.T, s api.Sect, f api.Form) {
	t.Helper()
	if b, err := sect.Put(s, f); err != api.ErrArg || len(b) != 0 {
		t.Errorf("Put(%v, %v) = %v, %v, not ErrArg", s, f, b, err)
	}
}

// checkShort holds the error, that it is the Code itself, and R3.
func checkShort(t *testing.T, b []byte, at uint64, f api.Form) {
	t.Helper()
	if s, err := sect.Get(b, at, f); err != api.ErrShort || s != (api.Sect{}) {
		t.Errorf("Get of %d bytes, %d, %v = %v, %v, not ErrShort", len(b), at, f, s, err)
	}
}

// checkGet holds Get against the chapter's words, and the second half of P6.3.
func checkGet(t *testing.T, b []byte, at uint64, f api.Form) {
	t.Helper()
	n := uint64(sizeOf(f))
	if at > uint64(len(b)) || uint64(len(b))-at < n {
		checkShort(t, b, at, f)
		return
	}
	want := b[at : at+n]
	s, err := sect.Get(b, at, f)
	if err != nil || s != told(want, f) {
		t.Errorf("Get(%v, %d, %v) = %v, %v, not %v", b, at, f, s, err, told(want, f))
		return
	}
	if c, err := sect.Put(s, f); err != nil || !bytes.Equal(c, want) {
		t.Errorf("P6.3: %v of %v, got and put, is %v, %v", want, f, c, err)
	}
}

// TestP6_1Size is the chapter's example, and the other class.
func TestP6_1Size(t *testing.T) {
	for _, f := range forms {
		if n := sect.Size(f); n != sizeOf(f) {
			t.Errorf("Size(%v) = %d", f, n)
		}
	}
}

// byHand holds the bytes themselves, so that the reference isn't all that holds them.
var byHand = map[api.Form][]byte{
	{}: {
		0xa4, 0xa3, 0xa2, 0xa1, 0xb4, 0xb3, 0xb2, 0xb1,
		0x04, 0x03, 0x02, 0x01, 0x14, 0x13, 0x12, 0x11, 0x24, 0x23, 0x22, 0x21, 0x34, 0x33, 0x32, 0x31,
		0xc4, 0xc3, 0xc2, 0xc1, 0xd4, 0xd3, 0xd2, 0xd1,
		0x44, 0x43, 0x42, 0x41, 0xf4, 0xf3, 0xf2, 0xf1,
	},
	{Big: true}: {
		0xa1, 0xa2, 0xa3, 0xa4, 0xb1, 0xb2, 0xb3, 0xb4,
		0x01, 0x02, 0x03, 0x04, 0x11, 0x12, 0x13, 0x14, 0x21, 0x22, 0x23, 0x24, 0x31, 0x32, 0x33, 0x34,
		0xc1, 0xc2, 0xc3, 0xc4, 0xd1, 0xd2, 0xd3, 0xd4,
		0x41, 0x42, 0x43, 0x44, 0xf1, 0xf2, 0xf3, 0xf4,
	},
	{Wide: true}: {
		0xa4, 0xa3, 0xa2, 0xa1, 0xb4, 0xb3, 0xb2, 0xb1,
		0x08, 0x07, 0x06, 0x05, 0x04, 0x03, 0x02, 0x01, 0x18, 0x17, 0x16, 0x15, 0x14, 0x13, 0x12, 0x11,
		0x28, 0x27, 0x26, 0x25, 0x24, 0x23, 0x22, 0x21, 0x38, 0x37, 0x36, 0x35, 0x34, 0x33, 0x32, 0x31,
		0xc4, 0xc3, 0xc2, 0xc1, 0xd4, 0xd3, 0xd2, 0xd1,
		0x48, 0x47, 0x46, 0x45, 0x44, 0x43, 0x42, 0x41, 0xf8, 0xf7, 0xf6, 0xf5, 0xf4, 0xf3, 0xf2, 0xf1,
	},
	{Wide: true, Big: true}: {
		0xa1, 0xa2, 0xa3, 0xa4, 0xb1, 0xb2, 0xb3, 0xb4,
		0x01, 0x02, 0x03, 0x04, 0x05, 0x06, 0x07, 0x08, 0x11, 0x12, 0x13, 0x14, 0x15, 0x16, 0x17, 0x18,
		0x21, 0x22, 0x23, 0x24, 0x25, 0x26, 0x27, 0x28, 0x31, 0x32, 0x33, 0x34, 0x35, 0x36, 0x37, 0x38,
		0xc1, 0xc2, 0xc3, 0xc4, 0xd1, 0xd2, 0xd3, 0xd4,
		0x41, 0x42, 0x43, 0x44, 0x45, 0x46, 0x47, 0x48, 0xf1, 0xf2, 0xf3, 0xf4, 0xf5, 0xf6, 0xf7, 0xf8,
	},
}

func TestP6_1ByHand(t *testing.T) {
	for f, want := range byHand {
		if b, err := sect.Put(full(f), f); err != nil || !bytes.Equal(b, want) {
			t.Errorf("Put of %v = %v, %v", f, b, err)
		}
		if s, err := sect.Get(want, 0, f); err != nil || s != full(f) {
			t.Errorf("Get of %v = %v, %v", f, s, err)
		}
	}
}

func TestP6_1Nothing(t *testing.T) {
	for _, f := range forms {
		checkPut(t, api.Sect{}, f)
		checkGet(t, make([]byte, sizeOf(f)), 0, f)
	}
}

// TestP6_1FourBytesInBothClasses lays each of the four alone, with all its bits, where each class has it.
func TestP6_1FourBytesInBothClasses(t *testing.T) {
	for _, f := range forms {
		places := []int{0, 4, 24, 28}
		if f.Wide {
			places = []int{0, 4, 40, 44}
		}
		for i, x := range words(f) {
			var s api.Sect
			x.set(&s, math.MaxUint32)
			want := make([]byte, sizeOf(f))
			copy(want[places[i]:], []byte{255, 255, 255, 255})
			if b, err := sect.Put(s, f); err != nil || !bytes.Equal(b, want) {
				t.Errorf("%s alone, of %v: %v, %v", x.name, f, b, err)
			}
			if y, err := sect.Get(want, 0, f); err != nil || y != s {
				t.Errorf("the bytes of %s alone, of %v: %v, %v", x.name, f, y, err)
			}
		}
	}
}

// TestP6_1EachNumberAlone sets each number to each power of two, and to those next to it, that it has the bytes for.
func TestP6_1EachNumberAlone(t *testing.T) {
	for _, f := range forms {
		for _, x := range fields(f) {
			for bit := range 8 * x.n {
				for _, v := range []uint64{1<<bit - 1, 1 << bit, 1<<bit | 1, top >> (64 - 8*x.n) &^ (1 << bit)} {
					var alone api.Sect
					x.set(&alone, v)
					checkPut(t, alone, f)
					among := full(f)
					x.set(&among, v)
					checkPut(t, among, f)
				}
			}
			most := full(f)
			x.set(&most, top>>(64-8*x.n))
			checkPut(t, most, f)
		}
	}
}

// TestP6_1EachByteAlone reads each byte as all of 0 to 255, with nothing and with all bits set around it.
func TestP6_1EachByteAlone(t *testing.T) {
	for _, f := range forms {
		for _, around := range []byte{0, 255} {
			b := bytes.Repeat([]byte{around}, sizeOf(f))
			for i := range b {
				for v := range 256 {
					b[i] = byte(v)
					checkGet(t, b, 0, f)
				}
				b[i] = around
			}
		}
	}
}

func TestP6_1NoLongerFits(t *testing.T) {
	for _, f := range []api.Form{{}, {Big: true}} {
		for _, x := range addresses(f) {
			for _, base := range []api.Sect{{}, full(f)} {
				for bit := 32; bit < 64; bit++ {
					for _, v := range []uint64{1 << bit, 1<<bit | 1, 1<<bit | 0xffffffff, top << bit} {
						s := base
						x.set(&s, v)
						checkArg(t, s, f)
						checkPut(t, s, api.Form{Wide: true, Big: f.Big})
					}
				}
				s := base
				x.set(&s, 1<<32-1)
				checkPut(t, s, f)
				x.set(&s, top)
				checkArg(t, s, f)
			}
		}
	}
}

// TestR1SeveralNoLongerFit takes each choice of the six that may be too great: one answer holds for all of them.
func TestR1SeveralNoLongerFit(t *testing.T) {
	for _, f := range forms {
		all := addresses(f)
		for choice := range 1 << len(all) {
			s := full(api.Form{})
			for i, x := range all {
				if choice>>i&1 == 1 {
					x.set(&s, 1<<32)
				}
			}
			if choice != 0 && !f.Wide {
				checkArg(t, s, f)
			} else {
				checkPut(t, s, f)
			}
		}
	}
}

// TestP6_1NumbersMeanNothing holds that nothing is asked of them but that they fit.
func TestP6_1NumbersMeanNothing(t *testing.T) {
	for _, f := range forms {
		edge := top >> (64 - 8*addresses(f)[0].n)
		for _, kind := range []uint32{api.Null, api.SymTab, api.StrTab, api.Rela, api.NoBits, api.RelTab, api.SymTabNdx, math.MaxUint32} {
			for _, v := range []uint64{0, 1, 3, edge - 1, edge} {
				for _, w := range []uint64{0, 2, edge} {
					checkPut(t, api.Sect{Type: kind, Addr: v, Off: w, Size: v, Align: 3, Entsize: w}, f)
					checkPut(t, api.Sect{Type: kind, Name: math.MaxUint32, Flags: v, Link: api.Escape, Info: math.MaxUint32, Align: w, Entsize: v}, f)
				}
			}
		}
	}
}

// TestP6_1EachLengthFromEachPlace cuts off what is from a place on at each length, and lays bytes around it.
func TestP6_1EachLengthFromEachPlace(t *testing.T) {
	for _, f := range forms {
		n := sizeOf(f)
		for ahead := range 10 {
			for behind := range 4 {
				b := bytes.Repeat([]byte{hold}, ahead)
				b = append(b, reference(full(f), f)...)
				b = append(b, bytes.Repeat([]byte{hold}, behind)...)
				if s, err := sect.Get(b, uint64(ahead), f); err != nil || s != full(f) {
					t.Errorf("%d bytes ahead, %d behind, of %v: %v, %v", ahead, behind, f, s, err)
				}
				for have := range n {
					checkShort(t, b[:ahead+have], uint64(ahead), f)
					checkShort(t, slices.Clip(b[:ahead+have]), uint64(ahead), f)
				}
				for at := range uint64(len(b) + 3) {
					checkGet(t, b, at, f)
				}
			}
		}
	}
}

// TestP6_1OneBehindTheOther reads a table of section headers, one from each place, in no order.
func TestP6_1OneBehindTheOther(t *testing.T) {
	for _, f := range forms {
		var table []byte
		var all []api.Sect
		for i := range uint64(api.MaxSecs) {
			s := full(f)
			s.Name, s.Addr = uint32(i), i<<8
			all = append(all, s)
			b, err := sect.Put(s, f)
			if err != nil {
				t.Fatal(err)
			}
			table = append(table, b...)
		}
		for _, i := range []int{63, 0, 31, 32, 1, 62} {
			if s, err := sect.Get(table, uint64(i*sect.Size(f)), f); err != nil || s != all[i] {
				t.Errorf("header %d of %v: %v, %v", i, f, s, err)
			}
		}
		checkShort(t, table, uint64(len(table)), f)
		checkShort(t, table, uint64(len(table)-sizeOf(f)+1), f)
	}
}

func TestP6_1LengthNotCapacity(t *testing.T) {
	for _, f := range forms {
		b := append(reference(full(f), f), reference(full(f), f)...)
		checkShort(t, b[:sizeOf(f)-1], 0, f)
		checkShort(t, b[:sizeOf(f)], 1, f)
		checkShort(t, b[:sizeOf(f)], uint64(sizeOf(f)), f)
		checkShort(t, b[:0], 0, f)
		checkGet(t, b[:sizeOf(f)], 0, f)
	}
}

func TestP6_1NoBytes(t *testing.T) {
	for _, f := range forms {
		for _, at := range []uint64{0, 1, 40, 64, 1 << 32, 1 << 63, top - 64, top - 40, top} {
			checkShort(t, nil, at, f)
			checkShort(t, []byte{}, at, f)
		}
	}
}

// TestP6_1FarPlaces takes each place from which a header would wrap round, and those that look near in fewer bits.
func TestP6_1FarPlaces(t *testing.T) {
	for _, f := range forms {
		for _, size := range []int{1, 39, 40, 41, 63, 64, 65, 200} {
			b := bytes.Repeat([]byte{hold}, size)
			for i := range uint64(300) {
				checkShort(t, b, top-i, f)
				checkShort(t, b, uint64(size)+i+1, f)
			}
			for _, near := range []uint64{0, 1, 8, uint64(size)} {
				for _, far := range []uint64{1 << 16, 1 << 31, 1 << 32, 1 << 62, 1 << 63} {
					checkShort(t, b, far+near, f)
					checkShort(t, b, far-near-1, f)
				}
			}
		}
	}
}

// TestR1ShortWhateverTheBytes holds that what is cut off is short, of each number alike.
func TestR1ShortWhateverTheBytes(t *testing.T) {
	for _, f := range forms {
		for _, v := range []byte{0, 1, 255} {
			for have := range sizeOf(f) {
				checkShort(t, bytes.Repeat([]byte{v}, have), 0, f)
			}
		}
	}
}

// TestErrorsAreCodes holds that errors.Is and errors.As find them, and that neither is a Spot.
func TestErrorsAreCodes(t *testing.T) {
	_, put := sect.Put(api.Sect{Entsize: 1 << 32}, api.Form{})
	_, get := sect.Get(nil, 0, api.Form{})
	for err, want := range map[error]api.Code{put: api.ErrArg, get: api.ErrShort} {
		var code api.Code
		var spot *api.Spot
		if !errors.Is(err, want) || !errors.As(err, &code) || code != want || errors.As(err, &spot) {
			t.Errorf("%v, not %v itself", err, want)
		}
	}
}

func TestP6_2PutTellsNewMemory(t *testing.T) {
	for _, f := range forms {
		want := reference(full(f), f)
		for range 3 {
			b, err := sect.Put(full(f), f)
			if err != nil || !bytes.Equal(b, want) {
				t.Errorf("once the earlier ones are spoilt: %v, %v", b, err)
			}
			all := b[:cap(b)]
			for k := range all {
				all[k] = hold
			}
		}
		first, _ := sect.Put(full(f), f)
		second, _ := sect.Put(api.Sect{}, f)
		if !bytes.Equal(first, want) || !bytes.Equal(second, make([]byte, sizeOf(f))) {
			t.Error("two answers share memory:", first, second)
		}
	}
}

func TestR2GetChangesAndKeepsNothing(t *testing.T) {
	for _, f := range forms {
		b := append([]byte{1, 2, 3}, reference(full(f), f)...)
		b = append(b, 4, 5)
		before := slices.Clone(b)
		for at := range uint64(len(b) + 2) {
			for n := range len(b) + 1 {
				sect.Get(b[:n], at, f)
			}
		}
		if !bytes.Equal(b, before) {
			t.Error("what was handed in is changed:", b)
		}
		s, err := sect.Get(b, 3, f)
		clear(b)
		if err != nil || s != full(f) {
			t.Error("what was told:", s, err)
		}
		checkGet(t, b, 3, f)
		checkGet(t, before, 3, f)
	}
}

// TestP6_3 holds that what was put is got, and that what is got, put, is those bytes, of many bytes that mean nothing.
func TestP6_3(t *testing.T) {
	for _, f := range forms {
		b := make([]byte, 600)
		v := uint32(1)
		for i := range b {
			v = v*1664525 + 1013904223
			b[i] = byte(v >> 24)
		}
		for at := range uint64(len(b)) {
			checkGet(t, b, at, f)
			if s, err := sect.Get(b, at, f); err == nil {
				checkPut(t, s, f)
			}
		}
	}
}

// TestP6_3OfTheOtherForms holds that a form says how a header is written, not what it is.
func TestP6_3OfTheOtherForms(t *testing.T) {
	s := full(api.Form{})
	for _, f := range forms {
		checkPut(t, s, f)
		b := reference(s, f)
		for _, g := range forms {
			checkGet(t, b, 0, g)
		}
	}
}

func FuzzP1GetNeverPanics(f *testing.F) {
	f.Add([]byte{}, uint64(0))
	f.Add([]byte{1}, top)
	for _, form := range forms {
		b := reference(full(form), form)
		f.Add(b, uint64(0))
		f.Add(b, uint64(1)<<63)
		f.Add(append([]byte{7}, b...), uint64(1))
	}
	f.Fuzz(func(t *testing.T, b []byte, at uint64) {
		before := bytes.Clone(b)
		for _, form := range forms {
			checkGet(t, b, at, form)
		}
		if !bytes.Equal(b, before) {
			t.Error("R2: what was handed in is changed")
		}
	})
}

func FuzzP1PutNeverPanics(f *testing.F) {
	f.Add(uint64(0), uint64(0), uint64(0), uint64(0), uint64(0), uint64(0), uint64(0), uint64(0))
	f.Add(top, top, top, top, top, top, top, top)
	f.Add(uint64(5)<<32|1, uint64(7)<<32|6, uint64(1)<<32, uint64(1)<<32-1, uint64(3), uint64(4), uint64(5), uint64(24))
	f.Fuzz(func(t *testing.T, names, links, flags, addr, off, size, align, entsize uint64) {
		s := api.Sect{
			Name: uint32(names), Type: uint32(names >> 32), Link: uint32(links), Info: uint32(links >> 32),
			Flags: flags, Addr: addr, Off: off, Size: size, Align: align, Entsize: entsize,
		}
		for _, form := range forms {
			if !form.Wide && (flags|addr|off|size|align|entsize)>>32 != 0 {
				checkArg(t, s, form)
			} else {
				checkPut(t, s, form)
			}
		}
	})
}
