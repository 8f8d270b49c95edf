package rebase_test

import (
	"bytes"
	"math"
	"testing"

	"bezant/api"
	"bezant/model"
	"bezant/rebase"
)

// names is a table of sections' names.
const names = "\x00.text\x00.bss\x00"

// full tells a model that may be, with all kinds of segments and of sections, new each time; no two of its numbers stand for one another.
func full(f api.Form) api.Model {
	x := lay(f, fill(40, 10), at(base+1, base+9), at(base+20), api.Dyn{Tag: 5, Val: base + 3}, api.Dyn{Tag: 14, Val: base + 3})
	m, b := x.Model, x.bytes()
	m.Flags = 0x01020304
	m.Segs[1].Paddr = 0x777
	m.Segs = append(m.Segs,
		api.Seg{Type: otherSeg, Flags: 4, Vaddr: base + 2, Paddr: 0x99, Memsz: 3, Align: 4, At: own(fill(5, 40)...)},
		api.Seg{Type: api.Load, Flags: 0x80000007, Vaddr: base + 0x2000, Paddr: 0x55, Memsz: 80, Align: 16, At: own(fill(30, 60)...)},
		api.Seg{Type: 0x6474e551, Flags: 0x80000006, Paddr: top(f), Align: 16, At: own()},
		api.Seg{Type: 0x6474e552, Flags: 4, Vaddr: base + 8, Memsz: 4, Align: 1, At: in(0, 8, 4)},
		api.Seg{Type: api.Load, Flags: 6, Vaddr: base + 0x3000, Memsz: 8, Align: 8, At: own()},
	)
	m.Secs = []api.Sec{
		{Name: 1, Type: otherSec, Flags: 6, Addr: base + 7, Size: 6, Align: 16, At: in(0, 7, 6)},
		{Name: 2, Type: api.StrTab, Size: uint64(len(names)), Align: 1, At: own([]byte(names)...)},
		{Name: 7, Type: api.NoBits, Flags: 3, Addr: base + 0x2020, Size: 60, Align: 32, At: own()},
		{Type: otherSec, Flags: 5, Addr: base + 5, Size: 9, Link: 2, Info: 1, Entsize: 3, At: own(fill(9, 50)...)},
		{Type: api.Rela, Flags: 2, Addr: base + uint64(x.with), Size: uint64(len(relBytes(f, true, at(1, 2)))), Link: 4, Info: 1, Align: 8, Entsize: 24, At: in(0, uint64(x.with), uint64(len(relBytes(f, true, at(1, 2)))))},
		{Type: 6, Flags: 3, Addr: base + uint64(x.entries), Size: uint64(len(b) - x.entries), Link: 2, At: in(0, uint64(x.entries), uint64(len(b)-x.entries))},
		{Type: api.Null, Flags: 2, Addr: 1, Size: 8, Align: 7, At: own()},
	}
	m.Str = 2
	return m
}

// TestP19_1Full holds every field of a model with all kinds of things, one by one.
func TestP19_1Full(t *testing.T) {
	each(t, func(t *testing.T, f api.Form) {
		d := far(f)
		m := full(f)
		n, err := rebase.Rebase(m, d)
		if err != nil || len(n.Segs) != 7 || len(n.Secs) != 7 {
			t.Fatal(err, brief(n))
		}
		if n.Ident != m.Ident || n.Type != 3 || n.Machine != 62 || n.Flags != 0x01020304 || n.Str != 2 || n.Entry != base+4+d {
			t.Error(brief(n))
		}
		for i, s := range n.Segs {
			w := m.Segs[i]
			if s.Vaddr != w.Vaddr+d || s.Type != w.Type || s.Flags != w.Flags || s.Paddr != w.Paddr || s.Memsz != w.Memsz || s.Align != w.Align || s.At.In != w.At.In || s.At.Off != w.At.Off || s.At.Size != w.At.Size || len(s.At.Own) != len(w.At.Own) {
				t.Error(i, brief(n))
			}
			if i > 0 && !bytes.Equal(s.At.Own, w.At.Own) {
				t.Error("other bytes", i)
			}
		}
		for i, s := range n.Secs {
			w := m.Secs[i]
			if w.Flags&2 != 0 {
				w.Addr += d
			}
			if s.Addr != w.Addr || s.Name != w.Name || s.Type != w.Type || s.Flags != w.Flags || s.Size != w.Size || s.Link != w.Link || s.Info != w.Info || s.Align != w.Align || s.Entsize != w.Entsize || s.At.In != w.At.In || s.At.Off != w.At.Off || s.At.Size != w.At.Size || !bytes.Equal(s.At.Own, w.At.Own) {
				t.Error(i, s, w)
			}
		}
		x := lay(f, fill(40, 10), at(1, 2), at(3), api.Dyn{Tag: 5, Val: base + 3}, api.Dyn{Tag: 14, Val: base + 3})
		moves(t, m, 1, 9, 20, x.val(0), x.val(2), x.val(4))
	})
}

// TestP19_1Vaddrs holds segments of each Type, at the edges of what may be moved.
func TestP19_1Vaddrs(t *testing.T) {
	each(t, func(t *testing.T, f api.Form) {
		for _, kind := range []uint32{0, 1, 2, 3, otherSeg, 5, 6, 7, 0x6474e550, 0x70000001, 1<<31 + 1, math.MaxUint32} {
			for _, v := range []uint64{0, 1, 255, 4096, top(f) / 2} {
				s := api.Seg{Type: kind, Vaddr: v, Paddr: v + 1, Memsz: 5, At: own(1, 2, 3)}
				for _, d := range []uint64{0, 1, 7, 256, top(f) / 4, top(f) - v - 4} {
					m := plain(f, s, api.Seg{Type: otherSeg, Vaddr: 3, At: own()})
					n, err := rebase.Rebase(m, d)
					if err != nil || n.Segs[0].Vaddr != v+d || n.Segs[0].Paddr != v+1 || n.Segs[0].Memsz != 5 || n.Segs[1].Vaddr != 3+d || n.Entry != 0 {
						t.Error(err, brief(n))
					}
					agree(t, m, d)
				}
			}
		}
	})
}

// TestP19_1Addrs holds sections with each flag beside Alloc, and without it.
func TestP19_1Addrs(t *testing.T) {
	each(t, func(t *testing.T, f api.Form) {
		l := []uint64{0, 5, 0xfd, top(f) - 2, top(f)/2 - 2}
		for v := uint64(1); v != 0 && v <= top(f); v <<= 1 {
			if v != 2 {
				l = append(l, v)
			}
		}
		for _, flags := range l {
			for _, kind := range []uint32{api.Null, otherSec, api.SymTab, api.NoBits, 6, math.MaxUint32} {
				m := plain(f)
				m.Secs = []api.Sec{{Type: kind, Flags: flags, Addr: 100, At: own()}, {Type: kind, Flags: flags + 2, Addr: 200, At: own()}, {Type: kind, Flags: flags + 2, At: own()}}
				n, err := rebase.Rebase(m, 4096)
				if err != nil || n.Secs[0].Addr != 100 || n.Secs[1].Addr != 4296 || n.Secs[2].Addr != 4096 || n.Secs[0].Flags != flags || n.Secs[1].Flags != flags+2 {
					t.Error(err, brief(n))
				}
				agree(t, m, 4096)
			}
		}
	})
}

func TestP19_1Entry(t *testing.T) {
	each(t, func(t *testing.T, f api.Form) {
		for _, v := range []uint64{0, 1, 2, 255, 4096, top(f) / 2} {
			for _, d := range []uint64{0, 1, 255, 4096, top(f) / 2} {
				m := plain(f, api.Seg{Type: otherSeg, At: own()})
				m.Entry = v
				n, err := rebase.Rebase(m, d)
				if err != nil || v == 0 && n.Entry != 0 || v > 0 && n.Entry != v+d {
					t.Error(err, v, d, n.Entry)
				}
				agree(t, m, d)
			}
		}
	})
}

// TestP19_1NoThings holds models without segments and sections.
func TestP19_1NoThings(t *testing.T) {
	each(t, func(t *testing.T, f api.Form) {
		for _, d := range []uint64{0, 1, 4095, top(f), math.MaxUint32, 1 << 32, math.MaxUint64} {
			m := api.Model{Ident: api.Ident{Form: f, OSABI: 9, ABI: 8}, Type: 3, Machine: 183, Flags: 7}
			is(t, m, d, m)
			m.Segs, m.Secs = []api.Seg{}, []api.Sec{}
			is(t, m, d, m)
		}
	})
}

// TestP19_1Twice holds that a model which is moved can be moved again: its Offs stay, so they may tell of no word any more.
func TestP19_1Twice(t *testing.T) {
	each(t, func(t *testing.T, f api.Form) {
		for _, m := range []api.Model{full(f), lay(f, fill(32, 5), at(base, base+8), at(base+16)).Model} {
			a, err := rebase.Rebase(m, 0x4560)
			if err != nil {
				t.Fatal(err)
			}
			agree(t, a, 0)
			agree(t, a, far(f))
			b, err := rebase.Rebase(a, far(f))
			if err != nil {
				t.Fatal(err)
			}
			c, err := rebase.Rebase(m, far(f)+0x4560)
			if err != nil {
				t.Fatal(err)
			}
			// The entries are moved twice, and the words that relocations name just once.
			if b.Entry != c.Entry || b.Segs[0].Vaddr != c.Segs[0].Vaddr || b.Segs[1].Vaddr != c.Segs[1].Vaddr {
				t.Error(brief(b))
			}
			p := b.Segs[1].At
			if !bytes.Equal(model.Bytes(b, p), model.Bytes(c, p)) || !bytes.Equal(b.Segs[0].At.Own[:p.Off], a.Segs[0].At.Own[:p.Off]) {
				t.Error(brief(b))
			}
		}
	})
}
