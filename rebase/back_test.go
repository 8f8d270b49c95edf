package rebase_test

import (
	"bytes"
	"debug/elf"
	"slices"
	"testing"

	"bezant/api"
	"bezant/file"
	"bezant/image"
	"bezant/model"
	"bezant/plan"
)

// models tells models that may be, of all kinds, that can be moved by 0x4560.
func models(f api.Form) []api.Model {
	all := []api.Model{full(f), overlaid(f), plain(f), plain(f, load(0, 0)), plain(f, load(0, 300, fill(200, 1)...)), lay(f, fill(9, 1), at(base), at(base+1)).Model}
	draw := drawn(4)
	for range 300 {
		if m := drawModel(f, draw); fault(m, 0x4560) == 0 {
			all = append(all, m)
		}
	}
	return all
}

// addresses tells each address of small regions, those around each region's ends, and a few others.
func addresses(x api.Image) []uint64 {
	l := []uint64{0, 1, 9, 1 << 31, 1<<32 - 1, 1 << 32, 1<<63 - 1, x.Entry}
	for _, r := range x.Regions {
		n := uint64(len(r.Bytes))
		for k := range min(max(r.Size, n), 500) {
			l = append(l, r.Addr+k)
		}
		for _, v := range []uint64{r.Addr, r.Addr + r.Size, r.Addr + n} {
			l = append(l, v-1, v, v+1)
		}
	}
	return l
}

// loadsFurther holds that an image is another one, d further on, but for these words.
func loadsFurther(t *testing.T, x, y api.Image, d uint64, w int, words []uint64) {
	t.Helper()
	entry := x.Entry
	if entry != 0 {
		entry += d
	}
	if y.Entry != entry || len(y.Regions) != len(x.Regions) {
		t.Fatal(x.Entry, len(x.Regions), y.Entry, len(y.Regions))
	}
	for i, r := range x.Regions {
		s := y.Regions[i]
		if s.Addr != r.Addr+d || s.Size != r.Size || s.Flags != r.Flags || len(s.Bytes) != len(r.Bytes) {
			t.Error("another region", i, r.Addr, s.Addr)
		}
	}
	for _, addr := range addresses(x) {
		if slices.ContainsFunc(words, func(v uint64) bool { return addr >= v && addr-v < uint64(w) }) || addr+d < addr {
			continue
		}
		v, f, ok := image.At(x, addr)
		u, g, had := image.At(y, addr+d)
		if v != u || f != g || ok != had {
			t.Errorf("at %#x: %d, %d, %v, and %d, %d, %v", addr, v, f, ok, u, g, had)
		}
	}
}

// namedWords tells the addresses of the words that are named.
func namedWords(m api.Model, d uint64) []uint64 {
	var l []uint64
	for _, x := range words(m, d) {
		l = append(l, m.Segs[x.seg].Vaddr+uint64(x.at))
	}
	return l
}

// TestP19_3MayBe holds that what is moved may be, that everything stands in its file where it did, and that moved by nothing it is the model.
func TestP19_3MayBe(t *testing.T) {
	each(t, func(t *testing.T, f api.Form) {
		for _, m := range models(f) {
			if n := moved(t, m, 0); !model.Same(n, m) {
				t.Error(brief(n))
			}
			n := moved(t, m, 0x4560)
			if err := model.Check(n); err != nil {
				t.Error(err, brief(n))
			}
			p, err := plan.Of(m)
			if err != nil {
				t.Fatal(err)
			}
			q, err := plan.Of(n)
			if err != nil || p.Size != q.Size || p.Shoff != q.Shoff || !slices.Equal(p.Segs, q.Segs) || !slices.Equal(p.Secs, q.Secs) {
				t.Error(err, p, q)
			}
		}
	})
}

// TestP19_3ToTheTop holds models that are moved as far as they can be: they may be, with the last byte of all in a segment.
func TestP19_3ToTheTop(t *testing.T) {
	each(t, func(t *testing.T, f api.Form) {
		for _, align := range []uint64{0, 1, 8, 4096} {
			m := plain(f, load(4096, 4096, fill(30, 1)...), api.Seg{Type: otherSeg, Vaddr: 8191, At: own(1)}, load(8192, 8192-4096, fill(9, 1)...))
			m.Segs[1].Align = align
			m.Entry = 12287
			d := top(f) - 12287
			agree(t, m, d)
			n := moved(t, m, d)
			if model.Check(n) != nil || n.Entry != top(f) || n.Segs[2].Vaddr+4095 != top(f) {
				t.Error(brief(n))
			}
			if v, _, ok := image.At(image.Model(n), top(f)); v != 0 || !ok {
				t.Error(v, ok)
			}
			refuses(t, m, d+max(align, 1), api.ErrWrap)
			m.Segs[2].Memsz++
			refuses(t, m, d, api.ErrWrap)
		}
	})
}

// TestT4Image holds that the image of a model that is moved is the one that it had, further on, but for the words that are named.
func TestT4Image(t *testing.T) {
	each(t, func(t *testing.T, f api.Form) {
		count := 0
		for _, m := range models(f) {
			for _, d := range []uint64{0, 16, 0x4560, far(f)} {
				n := moved(t, m, d)
				loadsFurther(t, image.Model(m), image.Model(n), d, width(f), namedWords(m, d))
				count += len(namedWords(m, d))
			}
		}
		if count < 1000 {
			t.Error(count)
		}
	})
}

// TestT4Bytes holds the same of files: what is moved is written, and read back, and loads further on.
func TestT4Bytes(t *testing.T) {
	each(t, func(t *testing.T, f api.Form) {
		for _, m := range models(f) {
			b, err := file.Encode(m)
			if err != nil {
				t.Fatal(err)
			}
			read, err := file.Parse(b)
			if err != nil {
				t.Fatal(err)
			}
			agree(t, read, 0x4560)
			n := moved(t, read, 0x4560)
			c, err := file.Encode(n)
			if err != nil || len(c) != len(b) {
				t.Fatal(err, len(c), len(b))
			}
			if back, err := file.Parse(c); err != nil || !model.Same(back, n) {
				t.Error(err, brief(back))
			}
			x, err := image.File(b)
			if err != nil {
				t.Fatal(err)
			}
			y, err := image.File(c)
			if err != nil {
				t.Fatal(err)
			}
			loadsFurther(t, x, y, 0x4560, width(f), namedWords(read, 0x4560))
		}
	})
}

// TestT4AsGoReads holds what is moved as Go's own library reads it.
func TestT4AsGoReads(t *testing.T) {
	each(t, func(t *testing.T, f api.Form) {
		x := lay(f, fill(40, 9), at(base+8), at(base+16), api.Dyn{Tag: 3, Val: base + 1}, api.Dyn{Tag: 10, Val: base + 2}, api.Dyn{Tag: 25, Val: base + 3}, api.Dyn{Tag: 0x6ffffef5, Val: base + 4}, api.Dyn{Tag: 13, Val: 5})
		m := x.Model
		n := uint64(len(x.bytes()) - x.entries)
		m.Secs = []api.Sec{{Type: 6, Flags: 3, Addr: base + uint64(x.entries), Size: n, Link: 2, Entsize: uint64(2 * width(f)), At: in(0, uint64(x.entries), n)}, {Type: api.StrTab, Size: 1, At: own(0)}}
		b, err := file.Encode(moved(t, m, 0x4560))
		if err != nil {
			t.Fatal(err)
		}
		y, err := elf.NewFile(bytes.NewReader(b))
		if err != nil {
			t.Fatal(err)
		}
		for tag, want := range map[elf.DynTag]uint64{
			elf.DT_RELA: base + 40 + 0x4560, elf.DT_RELASZ: uint64(3 * width(f)), elf.DT_REL: x.get(x.val(2)) + 0x4560, elf.DT_RELSZ: uint64(2 * width(f)),
			elf.DT_PLTGOT: base + 1 + 0x4560, elf.DT_STRSZ: base + 2, elf.DT_INIT_ARRAY: base + 3 + 0x4560, elf.DT_GNU_HASH: base + 4 + 0x4560, elf.DT_FINI: 5,
		} {
			if l, err := y.DynValue(tag); err != nil || len(l) != 1 || l[0] != want {
				t.Error(tag, l, want, err)
			}
		}
		if y.Entry != m.Entry+0x4560 || y.Progs[0].Vaddr != base+0x4560 || y.Progs[1].Vaddr != m.Segs[1].Vaddr+0x4560 || y.Sections[1].Addr != m.Secs[0].Addr+0x4560 || y.Sections[2].Addr != 0 {
			t.Error(y.Entry, y.Progs[0], y.Progs[1], y.Sections)
		}
		data := make([]byte, 40)
		if _, err := y.Progs[0].ReadAt(data, 0); err != nil || number(f, data[8:]) != (x.get(8)+0x4560)&top(f) || number(f, data[16:]) != (x.get(16)+0x4560)&top(f) || !bytes.Equal(data[:8], x.bytes()[:8]) {
			t.Error(err, data)
		}
	})
}
