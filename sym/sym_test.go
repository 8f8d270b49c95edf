package sym_test

import (
	"bytes"
	"encoding/binary"
	"errors"
	"math"
	"slices"
	"testing"

	"bezant/api"
	"bezant/sym"
)

const top uint64 = math.MaxUint64

var forms = []api.Form{{}, {Big: true}, {Wide: true}, {Wide: true, Big: true}}

var narrow = forms[:2]

// hold is what spoils memory, and what lies around bytes.
const hold = 0xee

// field tells where a class has a number, and how many bytes it has there.
type field struct {
	name  string
	at, n int
	get   func(api.Sym) uint64
	set   func(*api.Sym, uint64)
}

// fields tells all of them by hand: where each stands is written out, not added up.
func fields(f api.Form) []field {
	all := []field{
		{"Name", 0, 4, func(s api.Sym) uint64 { return uint64(s.Name) }, func(s *api.Sym, v uint64) { s.Name = uint32(v) }},
		{"Value", 4, 4, func(s api.Sym) uint64 { return s.Value }, func(s *api.Sym, v uint64) { s.Value = v }},
		{"Size", 8, 4, func(s api.Sym) uint64 { return s.Size }, func(s *api.Sym, v uint64) { s.Size = v }},
		{"Info", 12, 1, func(s api.Sym) uint64 { return uint64(s.Info) }, func(s *api.Sym, v uint64) { s.Info = byte(v) }},
		{"Other", 13, 1, func(s api.Sym) uint64 { return uint64(s.Other) }, func(s *api.Sym, v uint64) { s.Other = byte(v) }},
		{"Shndx", 14, 2, func(s api.Sym) uint64 { return uint64(s.Shndx) }, func(s *api.Sym, v uint64) { s.Shndx = uint16(v) }},
	}
	if !f.Wide {
		return all
	}
	for i, at := range []int{0, 8, 16, 4, 5, 6} {
		all[i].at = at
	}
	all[1].n, all[2].n = 8, 8
	return all
}

// addresses tells those of the fields that may have more than 4 bytes.
func addresses(f api.Form) []field { return fields(f)[1:3] }

func sizeOf(f api.Form) int {
	if f.Wide {
		return 24
	}
	return 16
}

// bytesOf tells a number's bytes by the library.
func bytesOf(v uint64, n int, big bool) []byte {
	if big {
		return binary.BigEndian.AppendUint64(nil, v)[8-n:]
	}
	return binary.LittleEndian.AppendUint64(nil, v)[:n]
}

// numberOf tells the number of bytes by the library.
func numberOf(b []byte, big bool) uint64 {
	c := make([]byte, 8)
	if big {
		copy(c[8-len(b):], b)
		return binary.BigEndian.Uint64(c)
	}
	copy(c, b)
	return binary.LittleEndian.Uint64(c)
}

// reference tells the bytes of symbols that may be.
func reference(l []api.Sym, f api.Form) []byte {
	b := make([]byte, len(l)*sizeOf(f))
	for i, s := range l {
		for _, x := range fields(f) {
			copy(b[i*sizeOf(f)+x.at:], bytesOf(x.get(s), x.n, f.Big))
		}
	}
	return b
}

// told tells the symbols that bytes are, all of them whole.
func told(b []byte, f api.Form) []api.Sym {
	var l []api.Sym
	for at := 0; at < len(b); at += sizeOf(f) {
		var s api.Sym
		for _, x := range fields(f) {
			x.set(&s, numberOf(b[at+x.at:at+x.at+x.n], f.Big))
		}
		l = append(l, s)
	}
	return l
}

// full tells one whose bytes are all other ones, in all of their places.
func full(f api.Form) api.Sym {
	s := api.Sym{Name: 0xa1a2a3a4, Info: 0xb1, Other: 0xc1, Shndx: 0xd1d2, Value: 0x01020304, Size: 0xf1f2f3f4}
	if f.Wide {
		s.Value, s.Size = 0x0102030405060708, 0xf1f2f3f4f5f6f7f8
	}
	return s
}

// noise tells so many bytes that mean nothing, the same ones each time.
func noise(n int) []byte {
	b := make([]byte, n)
	v := uint32(1)
	for i := range b {
		v = v*1664525 + 1013904223
		b[i] = byte(v >> 24)
	}
	return b
}

// several tells symbols that are all other ones, the first of them of 0s alone, as files have it.
func several(n int, f api.Form) []api.Sym {
	l := make([]api.Sym, n)
	for i := 1; i < n; i++ {
		l[i] = full(f)
		l[i].Name, l[i].Value, l[i].Shndx = uint32(i), uint64(i)<<8, uint16(i)
	}
	return l
}

// checkPut holds Put against the reference, and the first half of P8.4.
func checkPut(t *testing.T, l []api.Sym, f api.Form) {
	t.Helper()
	b, err := sym.Put(l, f)
	if err != nil || !bytes.Equal(b, reference(l, f)) {
		t.Errorf("Put(%v, %v) = %v, %v, not %v", l, f, b, err, reference(l, f))
		return
	}
	if x, err := sym.All(b, f); err != nil || !slices.Equal(x, l) {
		t.Errorf("P8.4: %v of %v is got as %v, %v", l, f, x, err)
	}
}

// checkArg holds the error, that it is the Code itself, and R3.
func checkArg(t *testing.T, l []api.Sym, f api.Form) {
	t.Helper()
	if b, err := sym.Put(l, f); err != api.ErrArg || len(b) != 0 {
		t.Errorf("Put(%v, %v) = %v, %v, not ErrArg", l, f, b, err)
	}
}

// checkShort holds the error, that it is a pointer to a Spot, its place, and R3.
func checkShort(t *testing.T, b []byte, f api.Form, at int) {
	t.Helper()
	l, err := sym.All(b, f)
	spot, ok := err.(*api.Spot)
	if !ok || spot == nil || *spot != (api.Spot{At: at, Code: api.ErrShort}) || len(l) != 0 {
		t.Errorf("All of %d bytes, %v = %v, %v, not ErrShort at %d", len(b), f, l, err, at)
	}
}

// checkAll holds All against the chapter's words, and the second half of P8.4.
func checkAll(t *testing.T, b []byte, f api.Form) {
	t.Helper()
	at := 0
	for at+sizeOf(f) <= len(b) {
		at += sizeOf(f)
	}
	if at != len(b) {
		checkShort(t, b, f, at)
		return
	}
	l, err := sym.All(b, f)
	if err != nil || !slices.Equal(l, told(b, f)) {
		t.Errorf("All(%v, %v) = %v, %v, not %v", b, f, l, err, told(b, f))
		return
	}
	if c, err := sym.Put(l, f); err != nil || !bytes.Equal(c, b) {
		t.Errorf("P8.4: %v of %v, got and put, is %v, %v", b, f, c, err)
	}
}

// checkSection holds that there is a section, and its number.
func checkSection(t *testing.T, l []api.Sym, ext []byte, f api.Form, i int, want uint32) {
	t.Helper()
	if n, ok := sym.Index(l, ext, f, i); n != want || !ok {
		t.Errorf("Index of %d symbols, %v, %v, %d = %d, %v, not %d", len(l), ext, f, i, n, ok, want)
	}
}

// checkNone holds that there is no section, and R3.
func checkNone(t *testing.T, l []api.Sym, ext []byte, f api.Form, i int) {
	t.Helper()
	if n, ok := sym.Index(l, ext, f, i); n != 0 || ok {
		t.Errorf("Index of %d symbols, %v, %v, %d = %d, %v, not 0, false", len(l), ext, f, i, n, ok)
	}
}

// byHand holds the bytes themselves, so that the reference isn't all that holds them.
var byHand = map[api.Form][]byte{
	{}: {
		0xa4, 0xa3, 0xa2, 0xa1, 0x04, 0x03, 0x02, 0x01, 0xf4, 0xf3, 0xf2, 0xf1,
		0xb1, 0xc1, 0xd2, 0xd1,
	},
	{Big: true}: {
		0xa1, 0xa2, 0xa3, 0xa4, 0x01, 0x02, 0x03, 0x04, 0xf1, 0xf2, 0xf3, 0xf4,
		0xb1, 0xc1, 0xd1, 0xd2,
	},
	{Wide: true}: {
		0xa4, 0xa3, 0xa2, 0xa1, 0xb1, 0xc1, 0xd2, 0xd1,
		0x08, 0x07, 0x06, 0x05, 0x04, 0x03, 0x02, 0x01, 0xf8, 0xf7, 0xf6, 0xf5, 0xf4, 0xf3, 0xf2, 0xf1,
	},
	{Wide: true, Big: true}: {
		0xa1, 0xa2, 0xa3, 0xa4, 0xb1, 0xc1, 0xd1, 0xd2,
		0x01, 0x02, 0x03, 0x04, 0x05, 0x06, 0x07, 0x08, 0xf1, 0xf2, 0xf3, 0xf4, 0xf5, 0xf6, 0xf7, 0xf8,
	},
}

func TestP8_1ByHand(t *testing.T) {
	for f, want := range byHand {
		l := []api.Sym{full(f), {}, full(f)}
		b := slices.Concat(want, make([]byte, len(want)), want)
		if c, err := sym.Put(l, f); err != nil || !bytes.Equal(c, b) {
			t.Errorf("Put of %v = %v, %v", f, c, err)
		}
		if x, err := sym.All(b, f); err != nil || !slices.Equal(x, l) {
			t.Errorf("All of %v = %v, %v", f, x, err)
		}
	}
}

// TestP8_1Example is the chapter's: 17 bytes of 32 bits.
func TestP8_1Example(t *testing.T) {
	for _, f := range narrow {
		checkShort(t, make([]byte, 17), f, 16)
	}
}

func TestP8_1NoSymbols(t *testing.T) {
	for _, f := range forms {
		for _, l := range [][]api.Sym{nil, {}} {
			if b, err := sym.Put(l, f); err != nil || len(b) != 0 {
				t.Errorf("Put of none, %v = %v, %v", f, b, err)
			}
		}
		for _, b := range [][]byte{nil, {}} {
			if l, err := sym.All(b, f); err != nil || len(l) != 0 {
				t.Errorf("All of no bytes, %v = %v, %v", f, l, err)
			}
		}
	}
}

// TestP8_1HowMany puts and reads up to 40 symbols, and those that are of 0s alone.
func TestP8_1HowMany(t *testing.T) {
	for _, f := range forms {
		for n := range 41 {
			checkPut(t, several(n, f), f)
			checkPut(t, make([]api.Sym, n), f)
			checkAll(t, noise(n*sizeOf(f)), f)
		}
	}
}

func TestP8_1VeryMany(t *testing.T) {
	for _, f := range forms {
		l := several(100000, f)
		checkPut(t, l, f)
		b := reference(l, f)
		checkShort(t, b[:len(b)-1], f, len(b)-sizeOf(f))
	}
}

// TestP8_1EachNumberAlone sets each number to each power of two, and to those next to it, that it has the bytes for.
func TestP8_1EachNumberAlone(t *testing.T) {
	for _, f := range forms {
		for _, x := range fields(f) {
			for bit := range 8 * x.n {
				for _, v := range []uint64{1<<bit - 1, 1 << bit, 1<<bit | 1, top >> (64 - 8*x.n) &^ (1 << bit)} {
					alone, among := api.Sym{}, full(f)
					x.set(&alone, v)
					x.set(&among, v)
					checkPut(t, []api.Sym{alone}, f)
					checkPut(t, []api.Sym{full(f), among, alone}, f)
				}
			}
			most := full(f)
			x.set(&most, top>>(64-8*x.n))
			checkPut(t, []api.Sym{most}, f)
		}
	}
}

// TestP8_1EachByteAlone reads each byte of two symbols as all of 0 to 255, with nothing and with all bits set around it.
func TestP8_1EachByteAlone(t *testing.T) {
	for _, f := range forms {
		for _, around := range []byte{0, 255} {
			b := bytes.Repeat([]byte{around}, 2*sizeOf(f))
			for i := range b {
				for v := range 256 {
					b[i] = byte(v)
					checkAll(t, b, f)
				}
				b[i] = around
			}
		}
	}
}

func TestP8_1NoLongerFits(t *testing.T) {
	for _, f := range narrow {
		wide := api.Form{Wide: true, Big: f.Big}
		for _, x := range addresses(f) {
			for _, s := range []api.Sym{{}, full(f)} {
				for bit := 32; bit < 64; bit++ {
					for _, v := range []uint64{1 << bit, 1<<bit | 1, 1<<bit | 0xffffffff, top << bit} {
						x.set(&s, v)
						checkArg(t, []api.Sym{s}, f)
						checkPut(t, []api.Sym{s}, wide)
					}
				}
				x.set(&s, top)
				checkArg(t, []api.Sym{s}, f)
				x.set(&s, 1<<32-1)
				checkPut(t, []api.Sym{s}, f)
			}
		}
	}
}

// TestP8_1NoLongerFitsAmongOthers lays a wrong one in each place of a list, ahead of, among, and behind others.
func TestP8_1NoLongerFitsAmongOthers(t *testing.T) {
	for _, f := range narrow {
		for n := 1; n < 8; n++ {
			for i := range n {
				for _, x := range addresses(f) {
					l := several(n, f)
					x.set(&l[i], 1<<32)
					checkArg(t, l, f)
					checkPut(t, l, api.Form{Wide: true, Big: f.Big})
					x.set(&l[i], 1<<32-1)
					checkPut(t, l, f)
				}
			}
		}
	}
}

// TestR1SeveralNoLongerFit takes each choice of the wrong numbers of three symbols: the answer is one.
func TestR1SeveralNoLongerFit(t *testing.T) {
	for _, f := range forms {
		for choice := range 1 << 6 {
			l := several(3, api.Form{})
			for i := range 6 {
				if choice>>i&1 == 1 {
					addresses(f)[i%2].set(&l[i/2], 1<<32)
				}
			}
			if choice != 0 && !f.Wide {
				checkArg(t, l, f)
			} else {
				checkPut(t, l, f)
			}
		}
	}
}

// TestP8_1NumbersMeanNothing holds that nothing is asked of them but that they fit.
func TestP8_1NumbersMeanNothing(t *testing.T) {
	for _, f := range forms {
		edge := top >> (64 - 8*addresses(f)[0].n)
		for _, v := range []uint64{0, 1, edge - 1, edge} {
			for _, section := range []uint16{0, 1, 65279, 65280, 65281, 65521, 65522, 65534, api.Escape} {
				checkPut(t, []api.Sym{
					{Name: math.MaxUint32, Info: 255, Other: 255, Shndx: section, Value: v, Size: edge},
					{Info: 1, Shndx: section, Value: edge, Size: v},
				}, f)
			}
		}
	}
}

// TestP8_1EachLength cuts bytes off at each length: At is where the one begins that isn't whole.
func TestP8_1EachLength(t *testing.T) {
	for _, f := range forms {
		n := sizeOf(f)
		b := reference(slices.Repeat([]api.Sym{full(f)}, 5), f)
		for have := range len(b) + 1 {
			cut := slices.Clip(b[:have])
			checkAll(t, cut, f)
			if have%n == 0 {
				if l, err := sym.All(cut, f); err != nil || len(l) != have/n {
					t.Errorf("%d bytes of %v: %v, %v", have, f, l, err)
				}
			} else {
				checkShort(t, cut, f, have/n*n)
			}
		}
	}
}

// TestP8_1LengthOfTheClass takes lengths that are whole in one class alone, or in both.
func TestP8_1LengthOfTheClass(t *testing.T) {
	for _, big := range []bool{false, true} {
		short, long := api.Form{Big: big}, api.Form{Wide: true, Big: big}
		checkShort(t, noise(24), short, 16)
		checkShort(t, noise(16), long, 0)
		checkShort(t, noise(32), long, 24)
		checkShort(t, noise(72), short, 64)
		for _, f := range []api.Form{short, long} {
			if l, err := sym.All(noise(48), f); err != nil || len(l) != 48/sizeOf(f) {
				t.Errorf("48 bytes of %v: %v, %v", f, l, err)
			}
		}
	}
}

// TestP8_1LengthNotCapacity holds that bytes behind the end aren't read.
func TestP8_1LengthNotCapacity(t *testing.T) {
	for _, f := range forms {
		n := sizeOf(f)
		b := reference(several(3, f), f)
		checkShort(t, b[:n-1], f, 0)
		checkShort(t, b[:n+1], f, n)
		checkShort(t, b[:2*n-1], f, n)
		checkAll(t, b[:0], f)
		checkAll(t, b[:n], f)
	}
}

// TestR1ShortWhateverTheBytes holds that what is cut off is short, whatever stands ahead of it.
func TestR1ShortWhateverTheBytes(t *testing.T) {
	for _, f := range forms {
		n := sizeOf(f)
		for _, v := range []byte{0, 1, 255} {
			for have := 1; have < n; have++ {
				checkShort(t, bytes.Repeat([]byte{v}, have), f, 0)
				checkShort(t, bytes.Repeat([]byte{v}, 3*n+have), f, 3*n)
			}
		}
	}
}

// TestErrorsAsTold holds that one is the Code itself, and that the other one is a Spot, whose Code is found too.
func TestErrorsAsTold(t *testing.T) {
	var code api.Code
	var spot *api.Spot
	_, err := sym.Put([]api.Sym{{Size: 1 << 32}}, api.Form{})
	if !errors.Is(err, api.ErrArg) || !errors.As(err, &code) || code != api.ErrArg || errors.As(err, &spot) {
		t.Errorf("%v, not ErrArg itself", err)
	}
	_, err = sym.All(noise(25), api.Form{Wide: true})
	if !errors.Is(err, api.ErrShort) || !errors.As(err, &spot) || spot.At != 24 || spot.Code != api.ErrShort {
		t.Errorf("%v, not ErrShort as a Spot at 24", err)
	}
}

// TestP8_2EachSection takes each Shndx but Escape: it is told as it stands, those beyond 65280 too, whatever ext is.
func TestP8_2EachSection(t *testing.T) {
	exts := [][]byte{nil, {}, {1, 2, 3}, noise(8), noise(40)}
	for _, f := range forms {
		for section := range uint32(api.Escape) {
			l := []api.Sym{{Shndx: uint16(section)}, {Shndx: uint16(section), Value: 7}}
			for _, ext := range exts {
				checkSection(t, l, ext, f, 0, section)
				checkSection(t, l, ext, f, 1, section)
			}
		}
	}
}

// TestP8_2EscapeAtEachLength cuts ext off at each length: a symbol has its number, if all four bytes are there.
func TestP8_2EscapeAtEachLength(t *testing.T) {
	const n = 6
	for _, f := range forms {
		l := slices.Repeat([]api.Sym{{Shndx: api.Escape, Value: 9}}, n)
		ext := noise(4*n + 9)
		for have := range len(ext) + 1 {
			cut := slices.Clip(ext[:have])
			for i := range n {
				if have < 4*i+4 {
					checkNone(t, l, cut, f, i)
					checkNone(t, l, ext[:have], f, i)
				} else {
					checkSection(t, l, cut, f, i, uint32(numberOf(ext[4*i:4*i+4], f.Big)))
				}
			}
		}
	}
}

func TestP8_2EscapeByHand(t *testing.T) {
	l := []api.Sym{{Shndx: 5}, {Shndx: api.Escape}, {Shndx: 0xfff1}, {Shndx: api.Escape}}
	ext := []byte{9, 9, 9, 9, 1, 2, 3, 4, 8, 8, 8, 8, 0, 0, 0xff, 0xff}
	for _, c := range []struct {
		big   bool
		i     int
		want  uint32
		exist bool
	}{
		{false, 0, 5, true}, {false, 1, 0x04030201, true}, {false, 2, 0xfff1, true}, {false, 3, 0xffff0000, true},
		{true, 0, 5, true}, {true, 1, 0x01020304, true}, {true, 2, 0xfff1, true}, {true, 3, 0x0000ffff, true},
		{false, 4, 0, false}, {true, 4, 0, false}, {false, -1, 0, false}, {true, -1, 0, false},
	} {
		for _, wide := range []bool{false, true} {
			n, ok := sym.Index(l, ext, api.Form{Wide: wide, Big: c.big}, c.i)
			if n != c.want || ok != c.exist {
				t.Errorf("%v of %v: %d, %v", c, wide, n, ok)
			}
		}
	}
}

// TestP8_2EscapeEachNumber holds that a number of ext is told as it stands: 0, Escape, and the greatest one too.
func TestP8_2EscapeEachNumber(t *testing.T) {
	l := []api.Sym{{Shndx: api.Escape}, {Shndx: api.Escape}}
	for _, f := range forms {
		for bit := range 33 {
			for _, v := range []uint64{1<<bit - 1, 1 << bit & math.MaxUint32, math.MaxUint32 &^ (1 << bit), api.Escape} {
				ext := append(bytesOf(^v, 4, f.Big), bytesOf(v, 4, f.Big)...)
				checkSection(t, l, ext, f, 0, ^uint32(v))
				checkSection(t, l, ext, f, 1, uint32(v))
			}
		}
	}
}

// TestP8_2EscapeAlone holds that numbers of ext stand for all symbols, and count for those of Escape alone.
func TestP8_2EscapeAlone(t *testing.T) {
	for _, f := range forms {
		for choice := range 1 << 5 {
			l := several(5, f)
			var ext []byte
			for i := range l {
				if choice>>i&1 == 1 {
					l[i].Shndx = api.Escape
				}
				ext = append(ext, bytesOf(uint64(70000+i), 4, f.Big)...)
			}
			for i := range l {
				if l[i].Shndx == api.Escape {
					checkSection(t, l, ext, f, i, uint32(70000+i))
					checkNone(t, l, ext[:4*i+3], f, i)
					checkNone(t, l, nil, f, i)
				} else {
					checkSection(t, l, ext, f, i, uint32(i))
					checkSection(t, l, nil, f, i, uint32(i))
				}
			}
		}
	}
}

// oddPlaces tells those that a list of n symbols hasn't, some of which wrap round to one that it has, as 32 bits, or four times as great.
func oddPlaces(n int) []int {
	all := []int{n, n + 1, n + 1000, -1, -2, -n, -n - 1, math.MinInt, math.MaxInt, math.MinInt32, math.MaxInt32}
	for near := range 4 {
		for _, bit := range []int{8, 16, 30, 31, 32, 61, 62} {
			all = append(all, 1<<bit+near, -1<<bit+near)
		}
		all = append(all, math.MinInt+near, math.MaxInt-near)
	}
	return slices.DeleteFunc(all, func(i int) bool { return 0 <= i && i < n })
}

func TestP8_2NoSuchSymbol(t *testing.T) {
	exts := [][]byte{nil, {}, noise(3), noise(4), noise(100), bytes.Repeat([]byte{255}, 4096)}
	for _, f := range forms {
		for n := range 5 {
			for _, section := range []uint16{0, 1, 65280, 65281, api.Escape} {
				l := slices.Repeat([]api.Sym{{Shndx: section, Value: 1}}, n)
				for _, ext := range exts {
					for _, i := range oddPlaces(n) {
						checkNone(t, l, ext, f, i)
					}
				}
			}
		}
		checkNone(t, nil, nil, f, 0)
		checkNone(t, nil, noise(8), f, 0)
	}
}

// TestP8_2LengthNotCapacity holds that neither symbols nor numbers behind the end are told.
func TestP8_2LengthNotCapacity(t *testing.T) {
	l := slices.Repeat([]api.Sym{{Shndx: api.Escape}}, 4)
	ext := noise(16)
	for _, f := range forms {
		checkNone(t, l[:2], ext, f, 2)
		checkNone(t, l[:0], ext, f, 0)
		checkNone(t, l, ext[:4], f, 1)
		checkNone(t, l, ext[:0], f, 0)
		checkSection(t, l[:2], ext[:8], f, 1, uint32(numberOf(ext[4:8], f.Big)))
	}
}

func TestP8_3PutTellsNewMemory(t *testing.T) {
	for _, f := range forms {
		l := several(3, f)
		want := reference(l, f)
		for range 3 {
			b, err := sym.Put(l, f)
			if err != nil || !bytes.Equal(b, want) {
				t.Errorf("once the earlier ones are spoilt: %v, %v", b, err)
			}
			all := b[:cap(b)]
			for k := range all {
				all[k] = hold
			}
		}
		first, _ := sym.Put(l, f)
		second, _ := sym.Put(make([]api.Sym, 3), f)
		if !bytes.Equal(first, want) || !bytes.Equal(second, make([]byte, 3*sizeOf(f))) {
			t.Error("two answers share memory:", first, second)
		}
	}
}

func TestP8_3AllTellsNewMemory(t *testing.T) {
	for _, f := range forms {
		want := several(3, f)
		b := reference(want, f)
		for range 3 {
			l, err := sym.All(b, f)
			if err != nil || !slices.Equal(l, want) {
				t.Errorf("once the earlier ones are spoilt: %v, %v", l, err)
			}
			all := l[:cap(l)]
			for k := range all {
				all[k] = api.Sym{Name: hold, Value: hold}
			}
		}
		first, _ := sym.All(b, f)
		second, _ := sym.All(make([]byte, len(b)), f)
		if !slices.Equal(first, want) || !slices.Equal(second, make([]api.Sym, 3)) {
			t.Error("two answers share memory:", first, second)
		}
	}
}

// TestP8_3AllTellsNewSpots holds that a Spot that is spoilt spoils no later one.
func TestP8_3AllTellsNewSpots(t *testing.T) {
	for _, f := range forms {
		for range 3 {
			_, err := sym.All(noise(3*sizeOf(f)-1), f)
			var spot *api.Spot
			if !errors.As(err, &spot) || *spot != (api.Spot{At: 2 * sizeOf(f), Code: api.ErrShort}) {
				t.Fatalf("%v of %v", err, f)
			}
			*spot = api.Spot{}
		}
	}
}

func TestR2PutChangesAndKeepsNothing(t *testing.T) {
	for _, f := range forms {
		l := several(5, f)
		before := slices.Clone(l)
		b, err := sym.Put(l[:3], f)
		if !slices.Equal(l, before) {
			t.Error("what was handed in is changed:", l)
		}
		clear(l)
		if err != nil || !bytes.Equal(b, reference(before[:3], f)) {
			t.Error("what was told:", b, err)
		}
		checkPut(t, l, f)
		checkPut(t, before, f)
	}
}

func TestR2AllChangesAndKeepsNothing(t *testing.T) {
	for _, f := range forms {
		want := several(4, f)
		b := append(reference(want, f), 1, 2, 3)
		before := slices.Clone(b)
		for n := range len(b) + 1 {
			sym.All(b[:n], f)
		}
		l, err := sym.All(b[:4*sizeOf(f)], f)
		if !bytes.Equal(b, before) {
			t.Error("what was handed in is changed:", b)
		}
		clear(b)
		if err != nil || !slices.Equal(l, want) {
			t.Error("what was told:", l, err)
		}
		checkAll(t, b, f)
		checkAll(t, before, f)
	}
}

func TestR2IndexChangesAndKeepsNothing(t *testing.T) {
	for _, f := range forms {
		l := []api.Sym{{Shndx: 3}, {Shndx: api.Escape}, full(f)}
		ext := noise(14)
		symbols, numbers := slices.Clone(l), slices.Clone(ext)
		for i := -2; i < 6; i++ {
			for n := range len(ext) + 1 {
				sym.Index(l, ext[:n], f, i)
			}
		}
		if !slices.Equal(l, symbols) || !bytes.Equal(ext, numbers) {
			t.Error("what was handed in is changed:", l, ext)
		}
		checkSection(t, l, ext, f, 1, uint32(numberOf(numbers[4:8], f.Big)))
		clear(ext)
		checkSection(t, l, ext, f, 1, 0)
		clear(l)
		checkSection(t, l, numbers, f, 1, 0)
	}
}

// TestP8_4 holds that what was put is got, and that what is got, put, is those bytes, of many bytes that mean nothing.
func TestP8_4(t *testing.T) {
	b := noise(700)
	for _, f := range forms {
		for from := range 100 {
			for to := from; to <= len(b); to += 37 {
				checkAll(t, b[from:to], f)
			}
			l, err := sym.All(b[from:from+24*sizeOf(f)], f)
			if err != nil || len(l) != 24 {
				t.Fatal(l, err)
			}
			checkPut(t, l, f)
		}
	}
}

// TestP8_4OfTheOtherForms holds that a form says how symbols are written, not what they are.
func TestP8_4OfTheOtherForms(t *testing.T) {
	l := several(6, api.Form{})
	for _, f := range forms {
		checkPut(t, l, f)
		b := reference(l, f)
		for _, g := range forms {
			checkAll(t, b, g)
		}
	}
}

func FuzzP1AllNeverPanics(f *testing.F) {
	f.Add([]byte{})
	f.Add(noise(17))
	for _, form := range forms {
		f.Add(reference(several(3, form), form))
	}
	f.Fuzz(func(t *testing.T, b []byte) {
		before := bytes.Clone(b)
		for _, form := range forms {
			checkAll(t, b, form)
		}
		if !bytes.Equal(b, before) {
			t.Error("R2: what was handed in is changed")
		}
	})
}

func FuzzP1PutNeverPanics(f *testing.F) {
	f.Add(uint64(0), uint64(0), uint64(0))
	f.Add(top, top, top)
	f.Add(uint64(65535)<<48|1, uint64(1)<<32, uint64(1)<<32-1)
	f.Fuzz(func(t *testing.T, words, value, size uint64) {
		s := api.Sym{
			Name: uint32(words), Info: byte(words >> 32), Other: byte(words >> 40), Shndx: uint16(words >> 48),
			Value: value, Size: size,
		}
		for _, form := range forms {
			l := []api.Sym{{}, s}
			if !form.Wide && (value|size)>>32 != 0 {
				checkArg(t, l, form)
			} else {
				checkPut(t, l, form)
			}
		}
	})
}

func FuzzP1IndexNeverPanics(f *testing.F) {
	f.Add([]byte{}, 0, uint16(0))
	f.Add(noise(12), 2, uint16(api.Escape))
	f.Add(noise(11), 2, uint16(api.Escape))
	f.Add(noise(12), math.MinInt, uint16(api.Escape))
	f.Add(noise(12), math.MaxInt, uint16(65281))
	f.Fuzz(func(t *testing.T, ext []byte, i int, section uint16) {
		l := slices.Repeat([]api.Sym{{Shndx: section}}, 4)
		for _, form := range forms {
			switch {
			case i < 0 || i > 3, section == api.Escape && len(ext) < 4*i+4:
				checkNone(t, l, ext, form, i)
			case section == api.Escape:
				checkSection(t, l, ext, form, i, uint32(numberOf(ext[4*i:4*i+4], form.Big)))
			default:
				checkSection(t, l, ext, form, i, uint32(section))
			}
		}
	})
}
