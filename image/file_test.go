package image_test

import (
	"bytes"
	"debug/elf"
	"io"
	"testing"

	"bezant/api"
)

func TestP17_1File(t *testing.T) {
	each(t, func(t *testing.T, f api.Form) {
		d, want := ordinary(f)
		tells(t, d.b, want)
		agree(t, d.b)
		// What is behind all of it may be any.
		tells(t, append(d.b, fill(70, 3)...), want)
	})
}

// TestP17_1FileByHand holds a file that is written out, byte by byte.
func TestP17_1FileByHand(t *testing.T) {
	narrow := []byte{
		127, 'E', 'L', 'F', 1, 2, 1, 0, 0, 0, 0, 0, 0, 0, 0, 0, 0, 2, 0, 8, 0, 0, 0, 1,
		1, 2, 3, 4, 0, 0, 0, 52, 0, 0, 0, 0, 0, 0, 0, 0, 0, 52, 0, 32, 0, 1, 0, 0, 0, 0, 0, 0,
		0, 0, 0, 1, 0, 0, 0, 84, 5, 6, 7, 8, 9, 9, 9, 9, 0, 0, 0, 3, 0, 0, 0, 4, 0, 0, 0, 5, 0, 0, 0, 1,
		10, 11, 12,
	}
	tells(t, narrow, of(0x01020304, region(0x05060708, 4, 5, 10, 11, 12)))
	wide := []byte{
		127, 'E', 'L', 'F', 2, 1, 1, 0, 0, 0, 0, 0, 0, 0, 0, 0, 2, 0, 62, 0, 1, 0, 0, 0,
		1, 2, 3, 4, 5, 6, 7, 8, 66, 0, 0, 0, 0, 0, 0, 0, 0, 0, 0, 0, 0, 0, 0, 0,
		0, 0, 0, 0, 64, 0, 56, 0, 1, 0, 0, 0, 0, 0, 0, 0,
		10, 11,
		1, 0, 0, 0, 6, 0, 0, 128, 63, 0, 0, 0, 0, 0, 0, 0, 8, 7, 6, 5, 4, 3, 2, 1, 9, 9, 9, 9, 9, 9, 9, 9,
		3, 0, 0, 0, 0, 0, 0, 0, 4, 0, 0, 0, 0, 0, 0, 1, 1, 0, 0, 0, 0, 0, 0, 0,
	}
	tells(t, wide, of(0x0807060504030201, region(0x0102030405060708, 0x0100000000000004, 0x80000006, 0, 10, 11)))
}

// TestP17_1FileAsGoReadsIt holds a file's image against Go's own library.
func TestP17_1FileAsGoReadsIt(t *testing.T) {
	each(t, func(t *testing.T, f api.Form) {
		l := layoutOf(f)
		tail := l.header + 4*l.prog
		d := blank(f, 4, tail+50)
		copy(d.b[tail:], fill(50, 1))
		d.head("entry", 4096)
		d.load(0, uint64(tail), 20, 0x1000, 30, 5)
		d.load(1, uint64(tail)+20, 30, 0x3000, 30, 6)
		d.load(2, uint64(tail)+7, 3, 0x5000, 3, 4)
		d.prog(2, "type", 4)
		d.load(3, uint64(tail)+2, 0, 0x6000, 9, 7)
		x, err := elf.NewFile(bytes.NewReader(d.b))
		if err != nil {
			t.Fatal(err)
		}
		want := of(x.Entry)
		for _, p := range x.Progs {
			if p.Type != elf.PT_LOAD {
				continue
			}
			b, err := io.ReadAll(p.Open())
			if err != nil {
				t.Fatal(err)
			}
			want.Regions = append(want.Regions, region(p.Vaddr, p.Memsz, uint32(p.Flags), b...))
		}
		if len(want.Regions) != 3 {
			t.Fatal(want)
		}
		tells(t, d.b, want)
	})
}

// TestP17_1FileThatEnds holds files that end at each byte: the header's numbers, the program headers and the bytes.
func TestP17_1FileThatEnds(t *testing.T) {
	refuses(t, nil)
	refuses(t, []byte{})
	each(t, func(t *testing.T, f api.Form) {
		d, want := ordinary(f)
		for n := range len(d.b) {
			refuses(t, d.b[:n])
		}
		tells(t, d.b, want)
		// A header alone has all it needs.
		d = blank(f, 0, layoutOf(f).header)
		d.head("entry", 9)
		tells(t, d.b, of(9))
		for n := range len(d.b) {
			refuses(t, d.b[:n])
		}
	})
}

// TestP17_1FileHeader holds headers that can't be read, each with the numbers that layer 4 holds fast.
func TestP17_1FileHeader(t *testing.T) {
	each(t, func(t *testing.T, f api.Form) {
		whole, want := ordinary(f)
		for _, name := range []string{"version", "headsize", "progsize"} {
			for _, v := range []uint64{0, 2, 31, 33, 39, 41, 51, 53, 55, 57, 63, 65, 65535} {
				d := whole.copied()
				d.head(name, v)
				refuses(t, d.b)
			}
		}
		for at := range 16 {
			d := whole.copied()
			d.b[at] ^= 64
			agree(t, d.b)
			if at < 7 {
				refuses(t, d.b)
			}
		}
		// The size of section headers is held, if there are any, wherever they are.
		d := whole.copied()
		d.head("sectsize", 7)
		tells(t, d.b, want)
		d.head("shoff", 1)
		refuses(t, d.b)
		d.head("sectsize", uint64(layoutOf(f).sect))
		tells(t, d.b, want)
		// That of program headers isn't, if there are none.
		d = whole.copied()
		d.head("phnum", 0)
		d.head("progsize", 7)
		tells(t, d.b, of(want.Entry))
	})
}

// TestP17_1HowMany holds each number of program headers around the edges, up to the most there may be.
func TestP17_1HowMany(t *testing.T) {
	each(t, func(t *testing.T, f api.Form) {
		l := layoutOf(f)
		for _, n := range []int{0, 1, 2, 3, 15, 16, 17, 18, 255, 256, 257, 4095, 65533, 65534} {
			d := blank(f, n, l.header+n*l.prog)
			d.head("entry", 5)
			want := of(5)
			for i := range n {
				d.load(i, uint64(i%50), 2, uint64(3*i), 3, uint32(i))
				want.Regions = append(want.Regions, region(uint64(3*i), 3, uint32(i), d.b[i%50], d.b[i%50+1]))
			}
			tells(t, d.b, want)
			if n > 0 {
				refuses(t, d.b[:len(d.b)-1])
				d.prog(n-1, "filesz", uint64(len(d.b)+1))
				refuses(t, d.b)
			}
		}
	})
}

// TestP17_1Escape holds that no file has an image whose number of program headers stands elsewhere.
func TestP17_1Escape(t *testing.T) {
	each(t, func(t *testing.T, f api.Form) {
		l := layoutOf(f)
		d := blank(f, 65535, l.header+65536*l.prog)
		refuses(t, d.b)
		d.head("phnum", 65534)
		tells(t, d.b, of(0))
		// Nor where a section header tells how many there are.
		d.head("phnum", 65535)
		d.head("shoff", uint64(l.header+l.prog))
		d.head("sectsize", uint64(l.sect))
		d.head("shnum", 1)
		info := l.header + l.prog + 28
		if f.Wide {
			info = l.header + l.prog + 44
		}
		d.set(0, map[string]number{"info": {info, 4}}, "info", 1)
		refuses(t, d.b)
		d.head("phnum", 1)
		tells(t, d.b, of(0))
		// Few bytes, of which not one header is there.
		d = blank(f, 65535, l.header)
		refuses(t, d.b)
	})
}

// TestP17_1Phoff holds where the program headers stand, in a file of several of them.
func TestP17_1Phoff(t *testing.T) {
	each(t, func(t *testing.T, f api.Form) {
		l := layoutOf(f)
		const size = 400
		for n := range 5 {
			room := uint64(n * l.prog)
			begins := []uint64{
				0, 1, 7, uint64(l.header), size - room - 1, size - room, size - room + 1, size - uint64(l.prog), size - uint64(l.prog) + 1, size - 1, size, size + 1,
				1 << 31, 1<<32 - room, top(f) / 2, top(f)/2 + 1, top(f) - room, top(f) - room + 1, top(f) - room + 2, top(f) - uint64(l.prog) + 1, top(f) - 1, top(f),
			}
			for _, at := range begins {
				d := blank(f, n, size)
				d.head("phoff", at)
				d.head("entry", 3)
				agree(t, d.b)
				if n == 0 {
					tells(t, d.b, of(3))
				} else if at > size-room {
					refuses(t, d.b)
				}
			}
		}
	})
}

// TestP17_1PhoffAnywhere holds one program header at each place of a file, also within the header.
func TestP17_1PhoffAnywhere(t *testing.T) {
	each(t, func(t *testing.T, f api.Form) {
		l := layoutOf(f)
		const size = 300
		for at := l.header; at <= size-l.prog; at++ {
			d := blank(f, 1, size)
			d.phoff = at
			d.head("phoff", uint64(at))
			d.load(0, uint64(at), 2, 7, 9, 3)
			tells(t, d.b, of(0, region(7, 9, 3, d.b[at], d.b[at+1])))
		}
		for at := size - l.prog + 1; at < size+100; at++ {
			d := blank(f, 1, size)
			d.head("phoff", uint64(at))
			refuses(t, d.b)
		}
		for at := range l.header {
			d := blank(f, 1, size)
			d.head("phoff", uint64(at))
			agree(t, d.b)
		}
	})
}

// offs tells where bytes may begin, in a file of n bytes, and how many they may be.
func offs(f api.Form, n uint64) []uint64 {
	return []uint64{
		0, 1, 2, n / 2, n - 2, n - 1, n, n + 1, n + 2, 2 * n, 65535, 65536, 1 << 31, 1<<32 - n, 1<<32 - n + 1, 1<<32 - 2, 1<<32 - 1,
		top(f) / 2, top(f)/2 + 1, top(f) - n - 1, top(f) - n, top(f) - n + 1, top(f) - n + 2, top(f) - 2, top(f) - 1, top(f),
	}
}

// TestP17_1Bytes holds each stretch of a file at an edge as bytes of Type Load, and of others, which have no say.
func TestP17_1Bytes(t *testing.T) {
	each(t, func(t *testing.T, f api.Form) {
		l := layoutOf(f)
		n := uint64(l.header + 2*l.prog + 9)
		for _, off := range offs(f, n) {
			for _, size := range offs(f, n) {
				d := blank(f, 2, int(n))
				d.load(0, off, size, 5, 6, 7)
				d.load(1, 4, 3, 8, 9, 1)
				last := region(8, 9, 1, d.b[4], d.b[5], d.b[6])
				if size == 0 {
					tells(t, d.b, of(0, region(5, 6, 7), last))
				} else if off < n && size <= n-off {
					tells(t, d.b, of(0, region(5, 6, 7, d.b[off:off+size]...), last))
				} else {
					refuses(t, d.b)
				}
				agree(t, d.b)
				for _, kind := range []uint64{0, 2, 3, 4, 6, 257, 65536 + 1, 1 << 24, 1<<31 + 1, 1<<32 - 1} {
					d.prog(0, "type", kind)
					tells(t, d.b, of(0, last))
				}
				// Nor is it otherwise, if it is the last one.
				d.load(0, 4, 3, 8, 9, 1)
				d.load(1, off, size, 5, 6, 7)
				agree(t, d.b)
			}
		}
	})
}

// TestP17_1EachStretch holds each stretch of a small file as bytes, up to the end and beyond.
func TestP17_1EachStretch(t *testing.T) {
	each(t, func(t *testing.T, f api.Form) {
		l := layoutOf(f)
		n := l.header + l.prog
		d := blank(f, 1, n)
		for off := range n + 3 {
			for size := range n + 3 {
				d.load(0, uint64(off), uint64(size), 5, 6, 7)
				if size == 0 || off+size <= n {
					tells(t, d.b, of(0, region(5, 6, 7, d.b[min(off, n):min(off, n)+size]...)))
				} else {
					refuses(t, d.b)
				}
			}
		}
	})
}

// TestP17_1LargeFile holds files of more bytes than layer 16 reads.
func TestP17_1LargeFile(t *testing.T) {
	each(t, func(t *testing.T, f api.Form) {
		for _, n := range []int{65535, 65536, 65537, 70000, 200000} {
			d := blank(f, 1, n)
			copy(d.b[1000:], fill(n-1000, 1))
			d.load(0, 1000, uint64(n-1000), 5, uint64(n), 7)
			tells(t, d.b, of(0, region(5, uint64(n), 7, fill(n-1000, 1)...)))
			d.prog(0, "filesz", uint64(n-999))
			refuses(t, d.b)
			d.load(0, uint64(n-1), 1, 5, 6, 7)
			tells(t, d.b, of(0, region(5, 6, 7, d.b[n-1])))
		}
	})
}

// TestP17_1OrderOfHeaders holds that regions stand as their program headers do, whatever their Vaddrs are, and that these and Memsz may be any.
func TestP17_1OrderOfHeaders(t *testing.T) {
	each(t, func(t *testing.T, f api.Form) {
		l := layoutOf(f)
		last := top(f)
		for _, at := range [][]uint64{{0, 10, 20}, {20, 10, 0}, {10, 20, 0}, {5, 5, 5}, {0, 4, 8}, {8, 6, 4}, {last, last, 0}, {last - 3, 0, last}} {
			for _, memsz := range []uint64{0, 1, 3, 4, 5, last - 1, last} {
				d := blank(f, 3, l.header+3*l.prog)
				want := of(0)
				for i, v := range at {
					d.load(i, uint64(i), 4, v, memsz, uint32(i))
					want.Regions = append(want.Regions, region(v, memsz, uint32(i), d.b[i:i+4]...))
				}
				tells(t, d.b, want)
			}
		}
	})
}

// TestP17_1WhatHasNoSay holds that section headers, Paddr, Align and much of the header say nothing of the image.
func TestP17_1WhatHasNoSay(t *testing.T) {
	each(t, func(t *testing.T, f api.Form) {
		l := layoutOf(f)
		whole, want := ordinary(f)
		for _, v := range []uint64{0, 1, 2, 3, 7, 64, 65535, 1 << 31, top(f)} {
			d := whole.copied()
			d.head("sectsize", uint64(l.sect))
			for _, name := range []string{"shnum", "str", "type", "machine", "flags"} {
				d.head(name, v)
			}
			want.Regions[2].Bytes = bytes.Clone(d.b[:5])
			tells(t, d.b, want)
			d.head("shoff", v)
			tells(t, d.b, want)
			for i := range 6 {
				d.prog(i, "paddr", v)
				d.prog(i, "align", v)
				tells(t, d.b, want)
			}
		}
		// A table of section headers, each byte of which is any.
		for _, v := range []byte{0, 1, 127, 255} {
			d := whole.copied()
			d.head("sectsize", uint64(l.sect))
			d.head("shoff", uint64(len(d.b)))
			d.head("shnum", 3)
			d.b = append(d.b, bytes.Repeat([]byte{v}, 3*l.sect)...)
			tells(t, d.b, want)
			tells(t, d.b[:len(d.b)-1], want)
		}
	})
}

// TestP17_1FarTooMuch holds that a file whose program headers tell of far more bytes than there are memory for is refused for its last one.
func TestP17_1FarTooMuch(t *testing.T) {
	f := api.Form{Wide: true}
	l := layoutOf(f)
	n := l.header + 65534*l.prog
	d := blank(f, 65534, n)
	for i := range 65534 {
		d.load(i, 0, uint64(n), 0, 0, 0)
	}
	d.prog(65533, "off", 1)
	refuses(t, d.b)
}
