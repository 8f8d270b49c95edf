package strip_test

import (
	"bytes"
	"debug/elf"
	"slices"
	"testing"

	"bezant/api"
	"bezant/file"
	"bezant/image"
	"bezant/model"
	"bezant/strip"
)

// addresses tells each address of small regions, those around each region's ends, and a few others.
func addresses(x api.Image) []uint64 {
	l := []uint64{0, 1, 9, 1 << 31, 1<<32 - 1, 1 << 32, 1<<63 - 1, 1<<64 - 2, 1<<64 - 1, x.Entry}
	for _, r := range x.Regions {
		n := uint64(len(r.Bytes))
		for k := range min(max(r.Size, n), 300) {
			l = append(l, r.Addr+k)
		}
		for _, v := range []uint64{r.Addr, r.Addr + r.Size, r.Addr + n} {
			l = append(l, v-1, v, v+1)
		}
	}
	return l
}

// alike holds that two images have the same Entry and regions, and the same byte, Flags and truth at each address that is asked.
func alike(t *testing.T, a, b api.Image) {
	t.Helper()
	if a.Entry != b.Entry || len(a.Regions) != len(b.Regions) {
		t.Fatal(a.Entry, len(a.Regions), b.Entry, len(b.Regions))
	}
	for i, r := range a.Regions {
		s := b.Regions[i]
		if r.Addr != s.Addr || r.Size != s.Size || r.Flags != s.Flags || !bytes.Equal(r.Bytes, s.Bytes) {
			t.Error("another region", i)
		}
	}
	for _, addr := range append(addresses(a), addresses(b)...) {
		v, f, ok := image.At(a, addr)
		w, g, had := image.At(b, addr)
		if v != w || f != g || ok != had {
			t.Errorf("at %d: %d, %d, %v, and %d, %d, %v", addr, v, f, ok, w, g, had)
		}
	}
}

// keeps holds T5 of a model: what is left may be, loads the same, and has the same Entry, segments and loaded sections; done again it is the same.
func keeps(t *testing.T, m api.Model) {
	t.Helper()
	n := strip.Strip(m)
	if err := model.Check(n); err != nil {
		t.Errorf("%v is told of what is left of %s", err, brief(m))
	}
	alike(t, image.Model(m), image.Model(n))
	if again := strip.Strip(n); !model.Same(again, n) {
		t.Errorf("done again: %s, not %s", brief(again), brief(n))
	}
	// All but what goes, as models of one kind of things alone.
	if len(m.Secs) != len(n.Secs) || m.Str != n.Str {
		t.Fatal(brief(n))
	}
	for i, s := range m.Secs {
		if s.Flags&api.Alloc != 0 || i == m.Str-1 {
			if !model.Same(api.Model{Secs: []api.Sec{s}}, api.Model{Secs: []api.Sec{n.Secs[i]}}) {
				t.Error("another section", i, brief(n))
			}
		}
	}
	a, b := m, n
	a.Secs, b.Secs = nil, nil
	if !model.Same(a, b) {
		t.Error("something beside the sections is another", brief(n))
	}
}

// models tells models that may be, of all kinds.
func models(f api.Form) []api.Model {
	m, _ := full(f)
	all := []api.Model{m, {Ident: api.Ident{Form: f}}, {Ident: api.Ident{Form: f}, Entry: top(f), Segs: m.Segs}}
	for i := range m.Secs {
		// Each section as each of the Types that go, and of none; also such as other ones link to.
		for _, k := range append(kinds(), otherSec) {
			if i != m.Str-1 && m.Secs[i].At.Size > 0 {
				c := clone(m)
				c.Secs[i].Type, c.Secs[i].Flags = k, 1
				all = append(all, c)
			}
		}
	}
	draw := drawn(5)
	for range 300 {
		all = append(all, drawModel(f, draw))
	}
	return all
}

func TestP18_3Keeps(t *testing.T) {
	each(t, func(t *testing.T, f api.Form) {
		for _, m := range models(f) {
			if err := model.Check(m); err != nil {
				t.Fatal(err, brief(m))
			}
			keeps(t, m)
		}
	})
}

// TestP18_3LinkedTo holds that sections which stay may link to ones that go.
func TestP18_3LinkedTo(t *testing.T) {
	each(t, func(t *testing.T, f api.Form) {
		for _, k := range kinds() {
			l := []api.Sec{sec(otherSec, 3), sec(k, 2), loaded(sec(api.Rela, 3)), sec(k, 3), sec(11, 5)}
			goes(t, of(f, l...), "..x.x.")
			keeps(t, of(f, l...))
			n := strip.Strip(of(f, l...))
			for i, link := range []uint32{0, 3, 0, 3, 0, 5} {
				if n.Secs[i].Link != link {
					t.Error(i, n.Secs[i].Link)
				}
			}
		}
	})
}

// TestP18_3AllGo holds models of which nothing is left but section Str, and not even that.
func TestP18_3AllGo(t *testing.T) {
	each(t, func(t *testing.T, f api.Form) {
		var l []api.Sec
		for i := range 64 {
			l = append(l, sec(kinds()[i%4], uint32(i)))
		}
		m := with(f, 0, l...)
		m.Segs = []api.Seg{{Type: api.Load, Vaddr: 9, Memsz: 9, At: own(1, 2, 3)}, {Type: otherSeg, At: in(0, 1, 2)}}
		keeps(t, m)
		n := strip.Strip(m)
		if len(n.Secs) != 64 || slices.ContainsFunc(n.Secs, func(s api.Sec) bool {
			return s.Type != 0 || s.Size != 0 || s.Link != 0 || s.At.In != -1 || s.At.Own != nil
		}) {
			t.Error(brief(n))
		}
		m.Secs[63] = names(".debug\x00")
		m.Str = 64
		keeps(t, m)
	})
}

// TestT5Bytes holds T5 of files: the bytes of what is left load the same, and are read as it.
func TestT5Bytes(t *testing.T) {
	each(t, func(t *testing.T, f api.Form) {
		written := 0
		for _, m := range models(f) {
			b, err := file.Encode(m)
			if err != nil {
				t.Fatal(err, brief(m))
			}
			read, err := file.Parse(b)
			if err != nil {
				t.Fatal(err)
			}
			keeps(t, read)
			c, err := file.Encode(strip.Strip(read))
			if err != nil {
				t.Fatal(err)
			}
			x, err := image.File(b)
			if err != nil {
				t.Fatal(err)
			}
			y, err := image.File(c)
			if err != nil {
				t.Fatal(err)
			}
			alike(t, x, y)
			if back, err := file.Parse(c); err != nil || !model.Same(back, strip.Strip(read)) {
				t.Error(err, brief(back))
			}
			written++
		}
		if written < 300 {
			t.Error(written)
		}
	})
}

// TestT5AsGoReads holds what is left as Go's own library reads it.
func TestT5AsGoReads(t *testing.T) {
	each(t, func(t *testing.T, f api.Form) {
		m, want := full(f)
		// That library reads neither sections that are too large nor relocations that aren't whole.
		for i := range m.Secs {
			if m.Secs[i].At.Size == 0 {
				m.Secs[i].Size = 0
			}
		}
		b, err := file.Encode(strip.Strip(m))
		if err != nil {
			t.Fatal(err)
		}
		x, err := elf.NewFile(bytes.NewReader(b))
		if err != nil {
			t.Fatal(err)
		}
		if len(x.Sections) != len(m.Secs)+1 {
			t.Fatal(len(x.Sections))
		}
		for i, s := range x.Sections[1:] {
			if want[i] == 'x' {
				h := s.SectionHeader
				// A plan tells a place in the file also of what has no bytes.
				h.Offset = 0
				if h != (elf.SectionHeader{}) {
					t.Error(i, h)
				}
				continue
			}
			if uint32(s.Type) != m.Secs[i].Type || s.Link != m.Secs[i].Link || s.Addr != m.Secs[i].Addr {
				t.Error(i, s.SectionHeader)
			}
			if data, err := s.Data(); s.Type != elf.SHT_NOBITS && s.Type != elf.SHT_NULL && (err != nil || !bytes.Equal(data, model.Bytes(m, m.Secs[i].At))) {
				t.Error(i, err, data)
			}
		}
	})
}
