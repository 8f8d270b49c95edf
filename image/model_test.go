package image_test

import (
	"math"
	"testing"

	"bezant/api"
	"bezant/image"
)

// own tells a place that has these bytes as its own.
func own(b ...byte) api.Place { return api.Place{In: -1, Size: uint64(len(b)), Own: b} }

// in tells a place in a segment.
func in(i int, off, size uint64) api.Place { return api.Place{In: i, Off: off, Size: size} }

// load tells a segment of Type Load.
func load(vaddr, memsz uint64, flags uint32, p api.Place) api.Seg {
	return api.Seg{Type: api.Load, Flags: flags, Vaddr: vaddr, Memsz: memsz, At: p}
}

// loads holds that Model answers this image.
func loads(t *testing.T, m api.Model, want api.Image) {
	t.Helper()
	if x := image.Model(m); !same(x, want) {
		t.Errorf("%s, not %s", brief(x), brief(want))
	}
}

// full tells a model that may be, with all kinds of segments and of sections, new each time.
func full(f api.Form) api.Model {
	base := top(f)/2 + 1
	return api.Model{
		Ident: api.Ident{Form: f, OSABI: 3, ABI: 1}, Type: 3, Machine: 62, Flags: 0x01020304, Entry: base + 6,
		Segs: []api.Seg{
			{Type: api.Dynamic, Flags: 6, Vaddr: base + 0x1004, Paddr: base + 0x77, Memsz: 4, Align: 8, At: in(2, 1, 4)},
			{Type: api.Load, Flags: 5, Vaddr: base + 5, Paddr: base + 0x99, Memsz: 20, Align: 64, At: own(fill(10, 10)...)},
			{Type: api.Load, Flags: 6, Vaddr: base + 0x1003, Memsz: 7, At: own(fill(7, 30)...)},
			{Type: otherSeg, Flags: 4, Memsz: 3, Align: 4, At: own(fill(5, 40)...)},
			{Type: api.Load, Flags: 0x80000007, Vaddr: base + 0x2000, Memsz: 8, Align: 8, At: own()},
			{Type: 0x6474e551, Flags: 0x80000006, Vaddr: 5, Align: 16, At: own()},
		},
		Secs: []api.Sec{
			{Name: 1, Type: 1, Flags: 6, Addr: base + 7, Size: 6, Align: 16, At: in(1, 2, 6)},
			{Name: 4, Type: api.StrTab, Size: 12, Align: 1, At: own([]byte("\x00.text\x00.bss\x00")...)},
			{Name: 7, Type: api.NoBits, Flags: 3, Addr: base + 0x2000, Size: base + 8, Align: 32, At: own()},
			{Type: 1, Size: 9, Link: 2, Info: 1, At: own(fill(9, 50)...)},
		},
		Str: 2,
	}
}

func TestP17_1Model(t *testing.T) {
	each(t, func(t *testing.T, f api.Form) {
		base := top(f)/2 + 1
		loads(t, full(f), of(base+6,
			region(base+5, 20, 5, fill(10, 10)...),
			region(base+0x1003, 7, 6, fill(7, 30)...),
			region(base+0x2000, 8, 0x80000007)))
	})
}

func TestP17_1ModelWithoutSegments(t *testing.T) {
	loads(t, api.Model{}, of(0))
	each(t, func(t *testing.T, f api.Form) {
		for _, v := range []uint64{0, 1, math.MaxUint32, math.MaxUint32 + 1, math.MaxUint64} {
			m := api.Model{Ident: api.Ident{Form: f}, Entry: v}
			loads(t, m, of(v))
			m.Segs = []api.Seg{}
			loads(t, m, of(v))
			m.Segs = []api.Seg{{Type: otherSeg, At: own(1)}, {At: own(2)}, {Type: 257, At: own(3)}}
			m.Secs = full(f).Secs
			loads(t, m, of(v))
		}
	})
}

// TestP17_1ModelTypes holds that a segment is a region for its Type alone.
func TestP17_1ModelTypes(t *testing.T) {
	for _, kind := range []uint32{0, 1, 2, 3, 4, 6, 257, 65537, 1<<24 + 1, 1 << 31, 1<<31 + 1, math.MaxUint32} {
		s := load(7, 8, 9, own(1, 2, 3))
		s.Type = kind
		want := of(5)
		if kind == 1 {
			want = of(5, region(7, 8, 9, 1, 2, 3))
		}
		loads(t, api.Model{Entry: 5, Segs: []api.Seg{s}}, want)
	}
}

// TestP17_1ModelPlaces holds that of a place Own alone has a say, also of models that may not be.
func TestP17_1ModelPlaces(t *testing.T) {
	odd := []uint64{0, 1, 2, 3, 4, 1 << 32, math.MaxUint64}
	for _, i := range []int{math.MinInt, -2, -1, 0, 1, 2, 3, math.MaxInt} {
		for _, off := range odd {
			for _, size := range odd {
				for _, b := range [][]byte{nil, {}, {7}, {7, 8, 9}, fill(300, 3)} {
					p := api.Place{In: i, Off: off, Size: size, Own: b}
					m := api.Model{Entry: 1, Segs: []api.Seg{load(5, 2, 3, own(1, 2)), load(size, off, 4, p), {Type: otherSeg, At: p}}}
					loads(t, m, of(1, region(5, 2, 3, 1, 2), region(size, off, 4, b...)))
				}
			}
		}
	}
}

// TestP17_1ModelMayNotBe holds models that layer 14 refuses: their image is told as that of any other one.
func TestP17_1ModelMayNotBe(t *testing.T) {
	// More segments than there may be; they fall, they lie over one another, and they wrap round.
	m := api.Model{Ident: api.Ident{}, Entry: math.MaxUint64, Str: 9}
	want := of(math.MaxUint64)
	for i := range 40 {
		v := math.MaxUint64 - uint64(3*i)
		m.Segs = append(m.Segs, load(v, 8, uint32(i), own(fill(9, i)...)))
		want.Regions = append(want.Regions, region(v, 8, uint32(i), fill(9, i)...))
	}
	m.Segs[3].Align, m.Segs[3].Paddr = 3, math.MaxUint64
	loads(t, m, want)
	// Sections have no say at all.
	m.Secs = make([]api.Sec, 100)
	m.Secs[0] = api.Sec{Type: api.Load, Flags: api.Alloc, Addr: 5, Size: 6, At: own(1)}
	loads(t, m, want)
	// A file that is far too large.
	m = api.Model{Segs: []api.Seg{load(0, 1, 2, own(fill(200000, 1)...))}}
	loads(t, m, of(0, region(0, 1, 2, fill(200000, 1)...)))
}
