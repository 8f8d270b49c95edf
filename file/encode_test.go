package file_test

import (
	"bytes"
	"debug/elf"
	"io"
	"math"
	"slices"
	"testing"

	"bezant/api"
	"bezant/file"
	"bezant/plan"
)

// small tells a model whose file is counted by hand below.
func small(f api.Form) api.Model {
	return api.Model{
		Ident: api.Ident{Form: f, OSABI: 9, ABI: 8}, Type: 0x0102, Machine: 0x0304, Flags: 0x05060708, Entry: 0x090a0b0c, Str: 1,
		Segs: []api.Seg{{Type: api.Load, Flags: 0x11121314, Vaddr: 0x21222324, Paddr: 0x31323334, Memsz: 0x41424344, Align: 4, At: own(0xa1, 0xa2, 0xa3)}},
		Secs: []api.Sec{
			{Name: 1, Type: api.StrTab, Flags: 0x51525354, Addr: 0x61626364, Size: 3, Link: 2, Info: 0x71727374, Align: 0x81828384, Entsize: 0x91929394, At: own(0, 'x', 0)},
			{Type: 0x0a0b0c0d, Size: 2, At: in(0, 1, 2)},
		},
	}
}

// TestP16_1NarrowByHand holds a file of 32 bits, the lowest byte first, byte by byte.
func TestP16_1NarrowByHand(t *testing.T) {
	want := slices.Concat(
		[]byte{127, 'E', 'L', 'F', 1, 1, 1, 9, 8, 0, 0, 0, 0, 0, 0, 0},
		[]byte{2, 1, 4, 3, 1, 0, 0, 0, 0x0c, 0x0b, 0x0a, 0x09, 52, 0, 0, 0, 96, 0, 0, 0, 8, 7, 6, 5},
		[]byte{52, 0, 32, 0, 1, 0, 40, 0, 3, 0, 1, 0},
		// The program header, at 52.
		[]byte{1, 0, 0, 0, 84, 0, 0, 0, 0x24, 0x23, 0x22, 0x21, 0x34, 0x33, 0x32, 0x31},
		[]byte{3, 0, 0, 0, 0x44, 0x43, 0x42, 0x41, 0x14, 0x13, 0x12, 0x11, 4, 0, 0, 0},
		// The bytes of the segment, at 84, and of the names, at 88.
		[]byte{0xa1, 0xa2, 0xa3, 0, 0, 'x', 0, 0, 0, 0, 0, 0},
		// The section headers, at 96.
		make([]byte, 40),
		[]byte{1, 0, 0, 0, 3, 0, 0, 0, 0x54, 0x53, 0x52, 0x51, 0x64, 0x63, 0x62, 0x61, 88, 0, 0, 0, 3, 0, 0, 0},
		[]byte{2, 0, 0, 0, 0x74, 0x73, 0x72, 0x71, 0x84, 0x83, 0x82, 0x81, 0x94, 0x93, 0x92, 0x91},
		[]byte{0, 0, 0, 0, 0x0d, 0x0c, 0x0b, 0x0a, 0, 0, 0, 0, 0, 0, 0, 0, 85, 0, 0, 0, 2, 0, 0, 0},
		make([]byte, 16),
	)
	byHand(t, small(api.Form{}), want)
}

// TestP16_1WideByHand holds a file of 64 bits, the highest byte first, byte by byte.
func TestP16_1WideByHand(t *testing.T) {
	want := slices.Concat(
		[]byte{127, 'E', 'L', 'F', 2, 2, 1, 9, 8, 0, 0, 0, 0, 0, 0, 0},
		[]byte{1, 2, 3, 4, 0, 0, 0, 1, 0, 0, 0, 0, 0x09, 0x0a, 0x0b, 0x0c},
		[]byte{0, 0, 0, 0, 0, 0, 0, 64, 0, 0, 0, 0, 0, 0, 0, 136, 5, 6, 7, 8},
		[]byte{0, 64, 0, 56, 0, 1, 0, 64, 0, 3, 0, 1},
		// The program header, at 64.
		[]byte{0, 0, 0, 1, 0x11, 0x12, 0x13, 0x14, 0, 0, 0, 0, 0, 0, 0, 120, 0, 0, 0, 0, 0x21, 0x22, 0x23, 0x24},
		[]byte{0, 0, 0, 0, 0x31, 0x32, 0x33, 0x34, 0, 0, 0, 0, 0, 0, 0, 3},
		[]byte{0, 0, 0, 0, 0x41, 0x42, 0x43, 0x44, 0, 0, 0, 0, 0, 0, 0, 4},
		// The bytes of the segment, at 120, and of the names, at 128.
		[]byte{0xa1, 0xa2, 0xa3, 0, 0, 0, 0, 0, 0, 'x', 0, 0, 0, 0, 0, 0},
		// The section headers, at 136.
		make([]byte, 64),
		[]byte{0, 0, 0, 1, 0, 0, 0, 3, 0, 0, 0, 0, 0x51, 0x52, 0x53, 0x54, 0, 0, 0, 0, 0x61, 0x62, 0x63, 0x64},
		[]byte{0, 0, 0, 0, 0, 0, 0, 128, 0, 0, 0, 0, 0, 0, 0, 3, 0, 0, 0, 2, 0x71, 0x72, 0x73, 0x74},
		[]byte{0, 0, 0, 0, 0x81, 0x82, 0x83, 0x84, 0, 0, 0, 0, 0x91, 0x92, 0x93, 0x94},
		[]byte{0, 0, 0, 0, 0x0a, 0x0b, 0x0c, 0x0d}, make([]byte, 16),
		[]byte{0, 0, 0, 0, 0, 0, 0, 121, 0, 0, 0, 0, 0, 0, 0, 2}, make([]byte, 24),
	)
	byHand(t, small(api.Form{Wide: true, Big: true}), want)
}

// byHand holds that a model is written as these bytes, and that these are read as it.
func byHand(t *testing.T, m api.Model, want []byte) {
	t.Helper()
	b, err := file.Encode(m)
	if err != nil || !bytes.Equal(b, want) {
		t.Errorf("%v, %v, not %v: the first other one is %d", err, b, want, firstOther(b, want))
	}
	if x := lay(t, m).b; !bytes.Equal(x, want) {
		t.Errorf("the reference tells %v", x)
	}
	reads(t, want, m)
}

func TestP16_1Models(t *testing.T) {
	each(t, func(t *testing.T, f api.Form) {
		for _, m := range models(f) {
			writes(t, m)
		}
	})
}

// TestP16_1NoSegsNoSecs holds that a model without both is its header, in which there is neither a place of a table nor a size of its headers.
func TestP16_1NoSegsNoSecs(t *testing.T) {
	each(t, func(t *testing.T, f api.Form) {
		size, sizeAt := 52, 40
		if f.Wide {
			size, sizeAt = 64, 52
		}
		for _, m := range []api.Model{of(f), {Ident: api.Ident{Form: f}, Segs: []api.Seg{}, Secs: []api.Sec{}}} {
			b, err := file.Encode(m)
			if err != nil || len(b) != size {
				t.Fatal(len(b), err)
			}
			lowest := 0
			if f.Big {
				lowest = 1
			}
			if b[sizeAt+lowest] != byte(size) || b[20+3*lowest] != 1 {
				t.Error(b)
			}
			b[sizeAt+lowest], b[20+3*lowest] = 0, 0
			if !bytes.Equal(b[16:], make([]byte, size-16)) {
				t.Error(b)
			}
			writes(t, m)
		}
	})
}

// TestP16_1HowMany holds how many segments and sections a header tells, up to as many as there may be.
func TestP16_1HowMany(t *testing.T) {
	each(t, func(t *testing.T, f api.Form) {
		l := layoutOf(f).headNumbers
		for segs := range 17 {
			for _, secs := range []int{0, 1, 2, 31, 63, 64} {
				m := many(f, segs, secs)
				if secs == 64 {
					m.Secs[63] = api.Sec{Type: api.StrTab, Size: 1, At: own(0)}
					m.Str = 64
				}
				b, err := file.Encode(m)
				if err != nil {
					t.Fatal(err)
				}
				d := &draft{b: b, f: f}
				shnum := uint64(secs + 1)
				if secs == 0 {
					shnum = 0
				}
				if d.get(0, l, "phnum") != uint64(segs) || d.get(0, l, "shnum") != shnum || d.get(0, l, "str") != uint64(m.Str) {
					t.Error(segs, secs, b)
				}
				if (d.get(0, l, "phoff") == 0) != (segs == 0) || (d.get(0, l, "shoff") == 0) != (secs == 0) {
					t.Error(segs, secs, b)
				}
				writes(t, m)
			}
		}
	})
}

// TestP16_1EachNumber holds each number of a model at the greatest that it may have, alone: all others are as they were.
func TestP16_1EachNumber(t *testing.T) {
	each(t, func(t *testing.T, f api.Form) {
		v := top(f)
		for i, do := range []func(m *api.Model){
			func(m *api.Model) { m.Ident.OSABI = 255 }, func(m *api.Model) { m.Ident.ABI = 255 },
			func(m *api.Model) { m.Type = 65535 }, func(m *api.Model) { m.Machine = 65535 },
			func(m *api.Model) { m.Flags = math.MaxUint32 }, func(m *api.Model) { m.Entry = v },
			func(m *api.Model) { m.Segs[3].Type = math.MaxUint32 }, func(m *api.Model) { m.Segs[3].Flags = math.MaxUint32 },
			func(m *api.Model) { m.Segs[3].Vaddr = v }, func(m *api.Model) { m.Segs[3].Paddr = v },
			func(m *api.Model) { m.Segs[3].Memsz = v }, func(m *api.Model) { m.Segs[3].Align = v/2 + 1 },
			func(m *api.Model) { m.Segs[4].Memsz = v - m.Segs[4].Vaddr + 1 }, func(m *api.Model) { m.Segs[1].Paddr = v },
			func(m *api.Model) { m.Secs[4].Name = 11 }, func(m *api.Model) { m.Secs[4].Type = math.MaxUint32 },
			func(m *api.Model) { m.Secs[4].Flags = v }, func(m *api.Model) { m.Secs[4].Addr = v },
			func(m *api.Model) { m.Secs[2].Size = v }, func(m *api.Model) { m.Secs[3].Size = v },
			func(m *api.Model) { m.Secs[4].Link = 6 }, func(m *api.Model) { m.Secs[4].Info = math.MaxUint32 },
			func(m *api.Model) { m.Secs[4].Align = v }, func(m *api.Model) { m.Secs[4].Entsize = v },
			func(m *api.Model) { m.Secs[0].Link = 6 }, func(m *api.Model) { m.Secs[3].Addr = v },
		} {
			m := ordinary(f)
			do(&m)
			writes(t, m)
			b, err := file.Encode(m)
			if err != nil {
				t.Fatal(i, err)
			}
			reads(t, b, m)
		}
	})
}

// TestP16_1AllElseIs0 holds that each byte that isn't a header's, nor a table's, nor a place's is 0, where all of these are full.
func TestP16_1AllElseIs0(t *testing.T) {
	each(t, func(t *testing.T, f api.Form) {
		l := layoutOf(f)
		for n := range 20 {
			m := of(f, load(4099, 4096, fill(n, 1)...), other(own(fill(n, 2)...)), load(9001, 64, fill(3, 3)...), other(own(fill(1, 4)...)))
			m = with(m, sec(own(fill(n, 5)...)), sec(own(fill(5, 6)...)), sec(in(2, 1, 2)))
			p, err := plan.Of(m)
			if err != nil {
				t.Fatal(err)
			}
			b, err := file.Encode(m)
			if err != nil || uint64(len(b)) != p.Size {
				t.Fatal(len(b), err)
			}
			clear(b[:l.header+4*l.prog])
			clear(b[p.Shoff:])
			for i, s := range m.Segs {
				at := b[p.Segs[i]:][:len(s.At.Own)]
				if !bytes.Equal(at, s.At.Own) {
					t.Error("segment", i, at)
				}
				clear(at)
			}
			for i, s := range m.Secs {
				at := b[p.Secs[i]:][:len(s.At.Own)]
				if !bytes.Equal(at, s.At.Own) {
					t.Error("section", i, at)
				}
				clear(at)
			}
			if !bytes.Equal(b, make([]byte, len(b))) {
				t.Error("bytes that are nobody's aren't 0", n)
			}
		}
	})
}

// TestP16_1FirstSectionHeader holds that it is one of 0s, however many sections there are.
func TestP16_1FirstSectionHeader(t *testing.T) {
	each(t, func(t *testing.T, f api.Form) {
		size := layoutOf(f).sect
		for secs := 1; secs <= 64; secs++ {
			m := many(f, 16, secs)
			p, err := plan.Of(m)
			if err != nil {
				t.Fatal(err)
			}
			b, err := file.Encode(m)
			if err != nil || !bytes.Equal(b[p.Shoff:][:size], make([]byte, size)) || len(b) != int(p.Shoff)+size*(secs+1) {
				t.Error(secs, err)
			}
		}
	})
}

// TestP16_1AtMaxFile holds models whose files have just as many bytes as there may be, by bytes, by an Align, and by a place without bytes at the end.
func TestP16_1AtMaxFile(t *testing.T) {
	each(t, func(t *testing.T, f api.Form) {
		l := layoutOf(f)
		front := l.header + l.prog
		full := fill(65536-front, 3)
		for _, m := range []api.Model{
			of(f, load(0, 0, full...)), of(f, load(65530, 1<<31, 1, 2, 3, 4, 5, 6)), of(f, load(65536, 65536)),
			with(of(f), sec(own(fill((65536-l.header-2*l.sect)/8*8-8, 9)...))),
		} {
			writes(t, m)
			b, err := file.Encode(m)
			if err != nil {
				t.Error(err)
			}
			reads(t, b, m)
		}
		for _, m := range []api.Model{
			of(f, load(0, 0, append(full, 1)...)), of(f, load(65530, 1<<31, 1, 2, 3, 4, 5, 6, 7)), of(f, load(65537, 1<<17)), of(f, load(top(f), top(f)/2+1, 1)),
		} {
			if b, err := file.Encode(m); err != api.ErrLarge || len(b) != 0 {
				t.Error(len(b), err)
			}
		}
	})
}

// wrong is one thing amiss with an ordinary model, and what is told of it.
type wrong struct {
	do   func(m *api.Model)
	code api.Code
}

// wrongs tells what layers 14 and 15 may tell of a model, each error more than once.
func wrongs(f api.Form) []wrong {
	l := []wrong{
		{func(m *api.Model) { m.Segs = append(m.Segs, make([]api.Seg, 11)...) }, api.ErrLarge},
		{func(m *api.Model) { m.Secs = append(m.Secs, make([]api.Sec, 59)...) }, api.ErrLarge},
		{func(m *api.Model) { m.Segs[0].Align = 3 }, api.ErrAlign},
		{func(m *api.Model) { m.Segs[5].Align = 7 }, api.ErrAlign},
		{func(m *api.Model) { m.Segs[1].At.Off = 1 }, api.ErrArg},
		{func(m *api.Model) { m.Segs[0].At.In = 99 }, api.ErrArg},
		{func(m *api.Model) { m.Segs[0].At.Size = 0 }, api.ErrArg},
		{func(m *api.Model) { m.Segs[3].At.Own = nil }, api.ErrArg},
		{func(m *api.Model) { m.Segs[1].Memsz = 9 }, api.ErrRange},
		{func(m *api.Model) { m.Segs[4].Memsz = top(f) }, api.ErrWrap},
		{func(m *api.Model) { m.Segs[4].Vaddr = 0 }, api.ErrOrder},
		{func(m *api.Model) { m.Secs[0].At.Off = 5 }, api.ErrArg},
		{func(m *api.Model) { m.Secs[0].At.In = math.MaxInt }, api.ErrArg},
		{func(m *api.Model) { m.Secs[2].At = own(1) }, api.ErrArg},
		{func(m *api.Model) { m.Secs[3].At = own(1) }, api.ErrArg},
		{func(m *api.Model) { m.Secs[4].Size = 10 }, api.ErrArg},
		{func(m *api.Model) { m.Secs[4].Link = 7 }, api.ErrLink},
		{func(m *api.Model) { m.Str = 7 }, api.ErrLink},
		{func(m *api.Model) { m.Str = -1 }, api.ErrLink},
		{func(m *api.Model) { m.Str = math.MinInt }, api.ErrLink},
		{func(m *api.Model) { m.Str = math.MaxInt }, api.ErrLink},
		{func(m *api.Model) { m.Str = 65536 + 2 }, api.ErrLink},
		{func(m *api.Model) { m.Str = 0 }, api.ErrName},
		{func(m *api.Model) { m.Str = 5 }, api.ErrName},
		{func(m *api.Model) { m.Secs[5].Name = 12 }, api.ErrName},
		// These plans may not be.
		{func(m *api.Model) { m.Segs[3].At = own(make([]byte, 65536)...) }, api.ErrLarge},
		{func(m *api.Model) { m.Segs[1].Align = 1 << 30 }, api.ErrLarge},
		{func(m *api.Model) { m.Secs[4].Size, m.Secs[4].At = 65000, own(make([]byte, 65000)...) }, api.ErrLarge},
	}
	if !f.Wide {
		l = append(l, wrong{func(m *api.Model) { m.Entry = 1 << 32 }, api.ErrArg}, wrong{func(m *api.Model) { m.Secs[5].Entsize = 1 << 63 }, api.ErrArg})
	}
	return l
}

// TestP16_1Errors holds each error of layers 14 and 15, itself, and that no bytes are told beside it.
func TestP16_1Errors(t *testing.T) {
	each(t, func(t *testing.T, f api.Form) {
		l := wrongs(f)
		for i, x := range l {
			m := ordinary(f)
			x.do(&m)
			if b, err := file.Encode(m); err != x.code || len(b) != 0 {
				t.Error(i, len(b), err)
			}
			for _, y := range l {
				m := ordinary(f)
				y.do(&m)
				x.do(&m)
				_, want := plan.Of(m)
				if b, err := file.Encode(m); err != want || len(b) != 0 {
					t.Error(i, len(b), err, want)
				}
			}
		}
	})
}

// TestP16_1AsTheLibraryReads holds ordinary models against the library's reading of such files.
func TestP16_1AsTheLibraryReads(t *testing.T) {
	each(t, func(t *testing.T, f api.Form) {
		m := ordinary(f)
		b, err := file.Encode(m)
		if err != nil {
			t.Fatal(err)
		}
		x, err := elf.NewFile(bytes.NewReader(b))
		if err != nil {
			t.Fatal(err)
		}
		if uint16(x.Type) != m.Type || uint16(x.Machine) != m.Machine || x.Entry != m.Entry || byte(x.OSABI) != m.Ident.OSABI || x.ABIVersion != m.Ident.ABI {
			t.Errorf("%+v", x.FileHeader)
		}
		if len(x.Progs) != len(m.Segs) || len(x.Sections) != len(m.Secs)+1 {
			t.Fatal(len(x.Progs), len(x.Sections))
		}
		for i, s := range m.Segs {
			p := x.Progs[i]
			if data, err := io.ReadAll(p.Open()); err != nil || !bytes.Equal(data, bytesAt(m, s.At)) {
				t.Error(i, data, err)
			}
			if uint32(p.Type) != s.Type || uint32(p.Flags) != s.Flags || p.Vaddr != s.Vaddr || p.Paddr != s.Paddr || p.Memsz != s.Memsz || p.Align != s.Align {
				t.Errorf("%d: %+v", i, p.ProgHeader)
			}
		}
		for i, s := range m.Secs {
			p := x.Sections[i+1]
			if data, err := p.Data(); s.Type != api.Null && s.Type != api.NoBits && (err != nil || !bytes.Equal(data, bytesAt(m, s.At))) {
				t.Error(i, data, err)
			}
			if uint32(p.Type) != s.Type || uint32(p.Flags) != uint32(s.Flags) || p.Addr != s.Addr || p.Size != s.Size || p.Link != s.Link || p.Info != s.Info || p.Addralign != s.Align || p.Entsize != s.Entsize {
				t.Errorf("%d: %+v", i, p.SectionHeader)
			}
		}
		if x.Sections[1].Name != ".text" || x.Sections[3].Name != ".bss" {
			t.Error(x.Sections[1].Name, x.Sections[3].Name)
		}
	})
}

// bytesAt tells the bytes at a place of a model that may be.
func bytesAt(m api.Model, p api.Place) []byte {
	if p.In == -1 {
		return p.Own
	}
	return m.Segs[p.In].At.Own[p.Off : p.Off+p.Size]
}
