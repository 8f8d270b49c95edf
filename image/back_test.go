package image_test

import (
	"bytes"
	"testing"

	"bezant/api"
	"bezant/file"
	"bezant/image"
	"bezant/plan"
)

// segsAt tells kinds of segments for a place in a list; those of Type Load rise, and some of them meet.
func segsAt(at int) []api.Seg {
	v := uint64(100 * at)
	l := []api.Seg{
		load(v, 0, 1, own()), load(v, 100, 2, own(1, 2, 3)), load(v+5, 4, 3, own(4, 5, 6, 7)), load(v+6, 40, 4, own()),
		{Type: otherSeg, Vaddr: v, Memsz: 9, Flags: 5, At: own(8, 9)}, {Type: otherSeg, At: own()},
		{Type: otherSeg, Vaddr: v, Memsz: 1, Flags: 6, At: in(0, 0, 1)}, {Type: api.Dynamic, At: in(1, 2, 1)},
	}
	l[2].Align = 16
	return l
}

// models tells models, most of which may be, of all kinds of small segments, new each time.
func models(f api.Form) []api.Model {
	all := []api.Model{full(f), {Ident: api.Ident{Form: f}}, {Ident: api.Ident{Form: f}, Entry: top(f)}}
	lists, last := [][]api.Seg{nil}, [][]api.Seg{nil}
	for at := range 3 {
		var longer [][]api.Seg
		for _, l := range last {
			for _, s := range segsAt(at) {
				longer = append(longer, append(l[:len(l):len(l)], s))
			}
		}
		lists, last = append(lists, longer...), longer
	}
	for i, l := range lists {
		m := api.Model{Ident: api.Ident{Form: f}, Entry: uint64(i), Segs: l}
		if i%3 == 1 {
			m.Secs = full(f).Secs[3:]
			m.Secs[0].Link = 0
		}
		all = append(all, m)
	}
	// Up to the edges of the class, and of how many segments there may be.
	m := api.Model{Ident: api.Ident{Form: f}, Entry: top(f)}
	for i := range 16 {
		m.Segs = append(m.Segs, load(uint64(3*i), 3, uint32(i), own(fill(3, i)...)))
	}
	m.Segs[15] = load(top(f)-4, 5, 1<<31, own(fill(5, 5)...))
	return append(all, m)
}

// addresses tells addresses around each region's ends, and a few others.
func addresses(x api.Image) []uint64 {
	l := []uint64{0, 1, 50, 99, 100, 1 << 31, 1<<32 - 1, 1 << 32, last - 1, last, x.Entry}
	for _, r := range x.Regions {
		n := uint64(len(r.Bytes))
		for _, v := range []uint64{r.Addr, r.Addr + r.Size, r.Addr + n} {
			l = append(l, v-1, v, v+1)
		}
	}
	return l
}

// alike holds that two images have the same Entry, and the same byte, Flags and truth at each address that is asked.
func alike(t *testing.T, a, b api.Image) {
	t.Helper()
	if !same(a, b) {
		t.Errorf("%s, not %s", brief(a), brief(b))
	}
	for _, addr := range append(addresses(a), addresses(b)...) {
		v, f, ok := image.At(a, addr)
		w, g, had := image.At(b, addr)
		if v != w || f != g || ok != had {
			t.Errorf("at %d: %d, %d, %v, and %d, %d, %v, of %s", addr, v, f, ok, w, g, had, brief(a))
		}
	}
}

// TestP17_3ModelAndItsBytes holds that a model and its bytes load the same.
func TestP17_3ModelAndItsBytes(t *testing.T) {
	each(t, func(t *testing.T, f api.Form) {
		written := 0
		for _, m := range models(f) {
			b, err := file.Encode(m)
			if err != nil {
				continue
			}
			written++
			x, err := image.File(b)
			if err != nil {
				t.Fatal(err)
			}
			alike(t, x, image.Model(m))
			agree(t, b)
			// And each byte of it, where there are few.
			for addr := range uint64(350) {
				v, g, ok := image.At(x, addr)
				w, h, had := byteThat(image.Model(m), addr)
				if len(m.Segs) < 4 && m.Segs != nil && (v != w || g != h || ok != had) {
					t.Errorf("at %d: %d, %d, %v, not %d, %d, %v, of %s", addr, v, g, ok, w, h, had, brief(x))
				}
			}
		}
		if written < 300 {
			t.Error("too few models are written:", written)
		}
	})
}

// TestP17_3LastModels holds models whose files are as large as they may be, and whose segments end at a class's last address.
func TestP17_3LastModels(t *testing.T) {
	each(t, func(t *testing.T, f api.Form) {
		m := api.Model{Ident: api.Ident{Form: f}, Entry: 1, Segs: []api.Seg{load(9, top(f)-8, 7, own())}}
		p, err := plan.Of(m)
		if err != nil {
			t.Fatal(err)
		}
		n := 65536 - int(p.Size)
		m.Segs[0].At = own(fill(n, 3)...)
		b, err := file.Encode(m)
		if err != nil || len(b) != 65536 {
			t.Fatal(len(b), err)
		}
		x, err := image.File(b)
		if err != nil {
			t.Fatal(err)
		}
		alike(t, x, image.Model(m))
		at(t, x, 9, 4, 7)
		at(t, x, 9+uint64(n)-1, byte((n+2)%255+1), 7)
		at(t, x, 9+uint64(n), 0, 7)
		at(t, x, top(f), 0, 7)
	})
}

// reads holds T2 of bytes: where they are read as a model, this loads the same as they do, and so does what is written of it.
func reads(t *testing.T, b []byte) bool {
	t.Helper()
	m, err := file.Parse(b)
	if err != nil || b[phnumAt(m)] == 255 && b[phnumAt(m)+1] == 255 {
		return false
	}
	x, err := image.File(b)
	if err != nil {
		t.Errorf("%v is told of a file that is read", err)
		return false
	}
	alike(t, x, image.Model(m))
	c, err := file.Encode(m)
	if err != nil {
		t.Errorf("%v is told of a model that was read", err)
		return false
	}
	y, err := image.File(c)
	if err != nil {
		t.Errorf("%v is told of a file that was written", err)
		return false
	}
	alike(t, x, y)
	return true
}

// phnumAt tells where Phnum stands.
func phnumAt(m api.Model) int { return layoutOf(m.Ident.Form).headNumbers["phnum"].at }

// TestT2Files holds files that are read, also such as aren't in the canonical form.
func TestT2Files(t *testing.T) {
	each(t, func(t *testing.T, f api.Form) {
		for _, m := range models(f) {
			b, err := file.Encode(m)
			if err != nil {
				continue
			}
			if !reads(t, b) || !reads(t, append(b, fill(60, 60)...)) {
				t.Error("not read", len(b))
			}
		}
	})
}

// TestT2EachByte holds each byte of a file as several other values: where it is still read, it loads what it did, and is written so.
func TestT2EachByte(t *testing.T) {
	each(t, func(t *testing.T, f api.Form) {
		b, err := file.Encode(full(f))
		if err != nil {
			t.Fatal(err)
		}
		read := 0
		for i, was := range b {
			for _, v := range []byte{0, 1, 2, 3, 4, 8, 64, 127, 128, 255, was + 1, was - 1, was ^ 16} {
				b[i] = v
				agree(t, b)
				if reads(t, b) {
					read++
				}
			}
			b[i] = was
		}
		if read < 1000 {
			t.Error("too few files are read:", read)
		}
	})
}

// TestT2Elsewhere holds a file whose segments lie over one another, and over the header.
func TestT2Elsewhere(t *testing.T) {
	each(t, func(t *testing.T, f api.Form) {
		l := layoutOf(f)
		d := blank(f, 3, l.header+3*l.prog+20)
		d.head("entry", 7)
		d.load(0, 0, uint64(len(d.b)), 0, 4096, 4)
		d.load(1, 5, 30, 8192, 30, 5)
		d.load(2, uint64(len(d.b))-1, 1, top(f), 1, 6)
		if !reads(t, d.b) {
			t.Error("not read")
		}
		x, err := image.File(d.b)
		if err != nil {
			t.Fatal(err)
		}
		tells(t, d.b, of(7, region(0, 4096, 4, d.b...), region(8192, 30, 5, d.b[5:35]...), region(top(f), 1, 6, 0)))
		at(t, x, 1, 'E', 4)
		at(t, x, 4095, 0, 4)
		none(t, x, 4096)
		// And one without bytes beyond the file's end.
		d.prog(2, "off", top(f))
		d.prog(2, "filesz", 0)
		if !reads(t, d.b) || !bytes.Equal(d.b[:4], []byte{127, 'E', 'L', 'F'}) {
			t.Error("not read")
		}
		tells(t, d.b, of(7, region(0, 4096, 4, d.b...), region(8192, 30, 5, d.b[5:35]...), region(top(f), 1, 6)))
	})
}
