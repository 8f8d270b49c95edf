package rebase_test

import (
	"math"
	"testing"

	"bezant/api"
	"bezant/rebase"
)

// plain tells a file that may be moved, with these segments.
func plain(f api.Form, l ...api.Seg) api.Model {
	return api.Model{Ident: api.Ident{Form: f}, Type: 3, Machine: 62, Segs: l}
}

// accepts holds that there is no error.
func accepts(t *testing.T, m api.Model, d uint64) {
	t.Helper()
	if _, err := rebase.Rebase(m, d); err != nil {
		t.Errorf("%v is told of %s by %#x", err, brief(m), d)
	}
	agree(t, m, d)
}

// apart holds that a model may be moved by one number, and, ErrWrap, not by the next one.
func apart(t *testing.T, m api.Model, d uint64) {
	t.Helper()
	accepts(t, m, d)
	refuses(t, m, d+1, api.ErrWrap)
	agree(t, m, d+1)
}

func TestP19_1Type(t *testing.T) {
	each(t, func(t *testing.T, f api.Form) {
		for _, m := range []api.Model{lay(f, fill(9, 1), at(base), nil).Model, plain(f), full(f)} {
			for _, v := range []uint16{0, 1, 2, 4, 5, 0x100, 0x103, 0x300, 0xfe00, 0xff00, 0xffff, 0xfffc} {
				m.Type = v
				refuses(t, m, 0, api.ErrType)
				refuses(t, m, 64, api.ErrType)
			}
			m.Type = 3
			accepts(t, m, 0)
			accepts(t, m, 64)
		}
	})
}

// aligned tells segments without bytes with these Aligns, of different Types.
func aligned(l ...uint64) []api.Seg {
	var all []api.Seg
	for i, v := range l {
		all = append(all, api.Seg{Type: []uint32{otherSeg, api.Load, api.Dynamic, 0, 0x6474e551}[i%5], Align: v, At: own()})
	}
	return all
}

func TestP19_1Align(t *testing.T) {
	each(t, func(t *testing.T, f api.Form) {
		for _, c := range []struct {
			l    []uint64
			d    uint64
			fine bool
		}{
			{nil, 0, true}, {nil, 1, true}, {nil, 4095, true},
			{[]uint64{0}, 0, true}, {[]uint64{0}, 1, true}, {[]uint64{0}, 3, true}, {[]uint64{1}, 1, true}, {[]uint64{1, 0, 1}, 7, true},
			{[]uint64{2}, 1, false}, {[]uint64{2}, 2, true}, {[]uint64{2}, 3, false}, {[]uint64{2, 0}, 1, false}, {[]uint64{0, 1, 2}, 1, false}, {[]uint64{0, 1, 2}, 6, true},
			{[]uint64{4096}, 2048, false}, {[]uint64{4096}, 4095, false}, {[]uint64{4096}, 4096, true}, {[]uint64{4096}, 4097, false}, {[]uint64{4096}, 12288, true}, {[]uint64{4096}, 0, true},
			// A multiple of each one but one, which stands at each place.
			{[]uint64{8192, 4096, 16, 0, 1}, 4096, false}, {[]uint64{4096, 8192, 16, 0, 1}, 4096, false}, {[]uint64{4096, 16, 0, 1, 8192}, 4096, false}, {[]uint64{16, 4096, 16, 8192, 0}, 12288, false},
			{[]uint64{8192, 4096, 16, 0, 1}, 8192, true}, {[]uint64{4096, 8192, 16, 0, 1}, 8192, true}, {[]uint64{4096, 16, 0, 1, 8192}, 16384, true},
			// Of none but the smallest ones, which stand ahead of the greatest and behind it.
			{[]uint64{16, 4096, 65536}, 32, false}, {[]uint64{65536, 4096, 16}, 32, false}, {[]uint64{4096, 65536, 16}, 2048, false}, {[]uint64{16, 65536, 4096}, 65536 + 16, false},
			// Their sum, and what they have in common, have no say.
			{[]uint64{16, 32}, 48, false}, {[]uint64{32, 16}, 48, false}, {[]uint64{16, 16}, 48, true}, {[]uint64{32, 64}, 96, false}, {[]uint64{2, 4, 8}, 12, false},
		} {
			m := plain(f, aligned(c.l...)...)
			if c.fine {
				accepts(t, m, c.d)
			} else {
				refuses(t, m, c.d, api.ErrAlign)
				agree(t, m, c.d)
			}
		}
	})
}

// TestP19_1AlignOfAll holds each Align at each place among those of segments, of each Type, and each d around it.
func TestP19_1AlignOfAll(t *testing.T) {
	each(t, func(t *testing.T, f api.Form) {
		for shift := range 8 * width(f) {
			greatest := uint64(1) << shift
			for at := range 5 {
				l := []uint64{0, 1, greatest / 2, greatest / 2, 1}
				l[at] = greatest
				m := plain(f, aligned(l...)...)
				for _, d := range []uint64{0, 1, greatest / 2, greatest - 1, greatest, greatest + 1, greatest + greatest/2} {
					if d > top(f) {
						continue
					}
					if d%greatest == 0 {
						accepts(t, m, d)
					} else {
						refuses(t, m, d, api.ErrAlign)
					}
				}
			}
		}
	})
}

// TestP19_1AlignOfSections holds that Align of a section has no say, nor has its Entsize.
func TestP19_1AlignOfSections(t *testing.T) {
	each(t, func(t *testing.T, f api.Form) {
		m := plain(f, aligned(16)...)
		m.Secs = []api.Sec{{Type: otherSec, Flags: 2, Align: 4096, Entsize: 999, At: own()}, {Type: otherSec, Align: 3, At: own()}}
		accepts(t, m, 16)
		refuses(t, m, 8, api.ErrAlign)
		m.Segs = nil
		accepts(t, m, 1)
	})
}

func TestP19_1WrapOfVaddr(t *testing.T) {
	each(t, func(t *testing.T, f api.Form) {
		for _, kind := range []uint32{0, 1, 2, 3, otherSeg, 6, 7, 0x6474e551, math.MaxUint32} {
			for _, v := range []uint64{0, 1, 4096, top(f) / 2, top(f) - 1, top(f)} {
				s := api.Seg{Type: kind, Vaddr: v, At: own()}
				if d := top(f) - v; d < math.MaxUint64 {
					apart(t, plain(f, s), d)
					apart(t, plain(f, api.Seg{Type: otherSeg, At: own()}, s, api.Seg{Type: otherSeg, At: own()}), d)
				} else {
					accepts(t, plain(f, s), d)
				}
				// One byte doesn't alter it, a Paddr neither.
				s.Memsz, s.Paddr = 1, top(f)
				if d := top(f) - v; d < math.MaxUint64 {
					apart(t, plain(f, s), d)
				} else {
					accepts(t, plain(f, s), d)
				}
			}
		}
	})
}

func TestP19_1WrapOfMemsz(t *testing.T) {
	each(t, func(t *testing.T, f api.Form) {
		for _, kind := range []uint32{0, 1, 2, 3, otherSeg, 6, 7, 0x6474e551, math.MaxUint32} {
			for _, v := range []uint64{0, 1, 4096, top(f) / 2} {
				for _, n := range []uint64{2, 3, 100, top(f) / 2} {
					s := api.Seg{Type: kind, Vaddr: v, Memsz: n, At: own()}
					apart(t, plain(f, s), top(f)-v-(n-1))
					apart(t, plain(f, api.Seg{Type: otherSeg, At: own()}, s), top(f)-v-(n-1))
					s.Type = otherSeg
					apart(t, plain(f, api.Seg{Type: kind, At: own()}, s, api.Seg{Type: kind, At: own()}), top(f)-v-(n-1))
				}
			}
			// All that there is, and just up to its end.
			accepts(t, plain(f, api.Seg{Type: kind, Memsz: top(f), At: own()}), 0)
			apart(t, plain(f, api.Seg{Type: kind, Memsz: top(f), At: own()}), 1)
			apart(t, plain(f, api.Seg{Type: kind, Vaddr: 1, Memsz: top(f), At: own()}), 0)
			apart(t, plain(f, api.Seg{Type: kind, Vaddr: top(f), Memsz: 1, At: own()}), 0)
			apart(t, plain(f, api.Seg{Type: kind, Vaddr: top(f), Memsz: 0, At: own()}), 0)
		}
	})
}

// TestP19_1WrapByNothing holds segments that aren't loaded, and go on beyond the last address: they can't be moved, not even by 0.
func TestP19_1WrapByNothing(t *testing.T) {
	each(t, func(t *testing.T, f api.Form) {
		for _, c := range [][2]uint64{{1, top(f)}, {2, top(f)}, {top(f), 2}, {top(f), top(f)}, {top(f)/2 + 1, top(f)/2 + 2}} {
			s := api.Seg{Type: otherSeg, Vaddr: c[0], Memsz: c[1], At: own()}
			if c[0] == 1 {
				accepts(t, plain(f, s), 0)
				continue
			}
			refuses(t, plain(f, s), 0, api.ErrWrap)
			agree(t, plain(f, s), 0)
			refuses(t, plain(f, s), 1, api.ErrWrap)
			// Where the sum wraps round it is a small number again.
			refuses(t, plain(f, s), top(f)-c[0]+1, api.ErrWrap)
			agree(t, plain(f, s), top(f)-c[0]+1)
		}
	})
}

func TestP19_1WrapOfAddr(t *testing.T) {
	each(t, func(t *testing.T, f api.Form) {
		for _, flags := range []uint64{2, 3, 6, 7, 0x32, 0xff, top(f)} {
			for _, v := range []uint64{1, 4096, top(f) / 2, top(f) - 1, top(f)} {
				m := plain(f)
				m.Secs = []api.Sec{{Type: otherSec, At: own()}, {Type: otherSec, Flags: flags, Addr: v, At: own()}, {Type: otherSec, Flags: 2, At: own()}}
				apart(t, m, top(f)-v)
				// Size has no say, nor has Align, and the Type neither.
				m.Secs[1].Type, m.Secs[1].Size, m.Secs[1].Align = api.NoBits, top(f), 3
				apart(t, m, top(f)-v)
				m.Secs[1].Type = api.Null
				apart(t, m, top(f)-v)
				// Without the flag it may be anywhere.
				m.Secs[1].Flags = flags &^ 2
				accepts(t, m, top(f)-v)
				accepts(t, m, top(f)-v+1)
				accepts(t, m, top(f))
			}
		}
	})
}

func TestP19_1WrapOfEntry(t *testing.T) {
	each(t, func(t *testing.T, f api.Form) {
		for _, v := range []uint64{1, 2, 4096, top(f) / 2, top(f)/2 + 1, top(f) - 1, top(f)} {
			m := plain(f)
			m.Entry = v
			apart(t, m, top(f)-v)
			refuses(t, m, top(f), api.ErrWrap)
			// The greatest number of all wraps round to just below Entry.
			refuses(t, m, math.MaxUint64, api.ErrWrap)
			m.Entry = 0
			accepts(t, m, top(f)-v)
			accepts(t, m, top(f)-v+1)
			accepts(t, m, top(f))
		}
	})
}

// TestP19_1WrapBeyondTheClass holds numbers that alone are beyond 32 bits: what isn't moved can't wrap.
func TestP19_1WrapBeyondTheClass(t *testing.T) {
	for _, big := range []bool{false, true} {
		f := api.Form{Big: big}
		for _, d := range []uint64{1 << 32, 1<<32 + 1, 1 << 33, 1 << 63, math.MaxUint64 - math.MaxUint32, math.MaxUint64} {
			m := plain(f)
			accepts(t, m, d)
			m.Secs = []api.Sec{{Type: otherSec, Addr: 9, At: own()}, {Type: otherSec, Flags: math.MaxUint32 - 2, Addr: math.MaxUint32, At: own()}}
			accepts(t, m, d)
			m.Secs[0].Flags = 2
			for _, v := range []uint64{0, 9, math.MaxUint32} {
				m.Secs[0].Addr = v
				refuses(t, m, d, api.ErrWrap)
				agree(t, m, d)
			}
			m.Secs = nil
			for _, v := range []uint64{1, 2, 4096, math.MaxUint32} {
				m.Entry = v
				refuses(t, m, d, api.ErrWrap)
				agree(t, m, d)
			}
			m.Entry = 0
			for _, kind := range []uint32{0, api.Load, api.Dynamic, otherSeg} {
				for _, v := range []uint64{0, 1, 4096, math.MaxUint32} {
					m.Segs = []api.Seg{{Type: kind, Vaddr: v, At: own()}}
					refuses(t, m, d, api.ErrWrap)
					agree(t, m, d)
				}
			}
		}
	}
}

// TestP19_1WrapIsOfEach holds that one of many things that would wrap is enough, whichever it is.
func TestP19_1WrapIsOfEach(t *testing.T) {
	each(t, func(t *testing.T, f api.Form) {
		d := top(f) - 4095
		m := full(f)
		m.Entry = 4
		for i := range m.Segs {
			m.Segs[i] = api.Seg{Type: otherSeg, Vaddr: uint64(i), Memsz: 9, At: own()}
		}
		for i := range m.Secs {
			m.Secs[i] = api.Sec{Type: otherSec, Flags: 2, Addr: uint64(i), At: own()}
		}
		m.Str = 0
		accepts(t, m, d)
		for i := range m.Segs {
			c := clone(m)
			c.Segs[i].Vaddr = 4096
			refuses(t, c, d, api.ErrWrap)
			c = clone(m)
			c.Segs[i].Vaddr, c.Segs[i].Memsz = 4000, 96
			accepts(t, c, d)
			c.Segs[i].Memsz++
			refuses(t, c, d, api.ErrWrap)
		}
		for i := range m.Secs {
			c := clone(m)
			c.Secs[i].Addr = 4096
			refuses(t, c, d, api.ErrWrap)
			c.Secs[i].Flags = 1
			accepts(t, c, d)
		}
		m.Entry = 4096
		refuses(t, m, d, api.ErrWrap)
	})
}

// TestR1Order holds which error is told where several apply.
func TestR1Order(t *testing.T) {
	each(t, func(t *testing.T, f api.Form) {
		for _, kind := range []uint16{0, 1, 2, 3, 4, 0xffff} {
			for _, align := range []uint64{0, 1, 64} {
				for _, d := range []uint64{0, 1, 32, 64, top(f) - 63, top(f)} {
					for _, v := range []uint64{0, 1, 63, 64, top(f)} {
						all := []api.Model{plain(f, api.Seg{Type: otherSeg, Vaddr: v, Align: align, At: own()}), plain(f, api.Seg{Align: align, At: own()}), plain(f, api.Seg{Align: align, At: own()})}
						all[1].Entry = v
						all[2].Secs = []api.Sec{{Flags: 2, Addr: v, At: own()}}
						for _, m := range all {
							m.Type = kind
							agree(t, m, d)
						}
					}
				}
			}
		}
		m := plain(f, api.Seg{Vaddr: top(f), Align: 2, At: own()})
		refuses(t, m, 2, api.ErrWrap)
		refuses(t, m, 1, api.ErrAlign)
		m.Type = 2
		refuses(t, m, 2, api.ErrType)
		refuses(t, m, 1, api.ErrType)
		m.Segs[0].Vaddr = 0
		refuses(t, m, 1, api.ErrType)
	})
}
