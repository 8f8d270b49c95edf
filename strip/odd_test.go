package strip_test

import (
	"math"
	"strings"
	"testing"

	"bezant/api"
	"bezant/model"
	"bezant/strip"
)

// ends holds that calls end, and that they leave alone what they were handed, also of models that may not be.
func ends(t *testing.T, m api.Model) {
	t.Helper()
	was := clone(m)
	strip.Goes(m)
	strip.Strip(m)
	if !model.Same(m, was) {
		t.Errorf("what was handed in is changed: %s", brief(was))
	}
	if model.Check(m) == nil {
		agree(t, m)
	}
}

// oddInts tells numbers for Str and In.
func oddInts(n int) []int {
	return []int{math.MinInt, math.MinInt + 1, math.MinInt32, -65536, -2, -1, 0, 1, n - 1, n, n + 1, 63, 64, 65, 255, 256, 65535, 65536, math.MaxInt32, math.MaxInt - 1, math.MaxInt}
}

// oddNumbers tells numbers for Names, Links and sizes.
func oddNumbers(n int) []uint64 {
	v := uint64(n)
	return []uint64{0, 1, 2, v - 1, v, v + 1, 63, 64, 65, 255, 256, 65535, 65536, 1<<31 - 1, 1 << 31, math.MaxUint32 - 1, math.MaxUint32, math.MaxUint32 + 1, 1 << 63, math.MaxUint64 - 1, math.MaxUint64}
}

func TestP1OddStr(t *testing.T) {
	each(t, func(t *testing.T, f api.Form) {
		m, _ := full(f)
		for _, v := range oddInts(len(m.Secs)) {
			m.Str = v
			ends(t, m)
			ends(t, api.Model{Str: v})
			ends(t, api.Model{Str: v, Secs: []api.Sec{{}}})
			ends(t, api.Model{Str: v, Secs: []api.Sec{{Type: api.SymTab, Link: 1}}})
		}
	})
}

func TestP1OddNames(t *testing.T) {
	each(t, func(t *testing.T, f api.Form) {
		m, _ := full(f)
		for i := range m.Secs {
			for _, n := range []int{len(text), len(m.Secs)} {
				for _, v := range oddNumbers(n) {
					c := clone(m)
					c.Secs[i].Name = uint32(v)
					ends(t, c)
				}
			}
		}
		// Names without a 0 behind them.
		for _, table := range []string{"", ".debug", "\x00.debug", ".", ".zdebu", "\x00\x00.zdebug_x"} {
			for i := range len(table) + 2 {
				s := sec(otherSec, 0)
				s.Name = uint32(i)
				ends(t, with(f, 1, names(table), s))
				ends(t, with(f, 2, s, names(table), s))
			}
		}
	})
}

func TestP1OddLinks(t *testing.T) {
	each(t, func(t *testing.T, f api.Form) {
		m, _ := full(f)
		for i := range m.Secs {
			for _, v := range oddNumbers(len(m.Secs)) {
				c := clone(m)
				c.Secs[i].Link = uint32(v)
				ends(t, c)
				for _, k := range append(kinds(), api.StrTab) {
					c.Secs[i].Type = k
					ends(t, c)
				}
			}
		}
		for _, v := range oddNumbers(2) {
			ends(t, with(f, 0, sec(api.SymTab, uint32(v)), sec(api.StrTab, uint32(v))))
			ends(t, with(f, 0, sec(otherSec, uint32(v)), sec(otherSec, uint32(v))))
			ends(t, with(f, 0, sec(api.SymTab, uint32(v))))
		}
	})
}

// TestP1OddPlaces holds places of sections, and that of section Str, that may not be.
func TestP1OddPlaces(t *testing.T) {
	each(t, func(t *testing.T, f api.Form) {
		m, _ := full(f)
		for i := range m.Secs {
			for _, in := range oddInts(len(m.Segs)) {
				for _, v := range oddNumbers(10) {
					c := clone(m)
					c.Secs[i].At = api.Place{In: in, Off: v, Size: 3}
					ends(t, c)
					c.Secs[i].At = api.Place{In: in, Off: 1, Size: v, Own: []byte(".debug\x00")}
					ends(t, c)
				}
			}
		}
		for i := range m.Segs {
			for _, in := range oddInts(len(m.Segs)) {
				c := clone(m)
				c.Segs[i].At.In = in
				ends(t, c)
				c.Segs[i].At.Own = nil
				ends(t, c)
			}
		}
		m.Segs = nil
		ends(t, m)
	})
}

// TestP1OddNumbers holds every other number at its edges, all of them at once.
func TestP1OddNumbers(t *testing.T) {
	for _, v := range oddNumbers(3) {
		for _, i := range oddInts(3) {
			s := api.Sec{Name: uint32(v), Type: uint32(v), Flags: v, Addr: v, Size: v, Link: uint32(v), Info: uint32(v), Align: v, Entsize: v, At: api.Place{In: i, Off: v, Size: v}}
			g := api.Seg{Type: uint32(v), Flags: uint32(v), Vaddr: v, Paddr: v, Memsz: v, Align: v, At: s.At}
			for _, k := range append(kinds(), api.StrTab, api.Null) {
				r := s
				r.Type = k
				ends(t, api.Model{Entry: v, Segs: []api.Seg{g, g}, Secs: []api.Sec{s, r, s}, Str: i})
				r.Flags = 0
				ends(t, api.Model{Entry: v, Segs: []api.Seg{g}, Secs: []api.Sec{r, s, r}, Str: i})
			}
		}
	}
}

// TestP1VeryMany holds models of more segments and sections than there may be.
func TestP1VeryMany(t *testing.T) {
	for _, n := range []int{65, 1000, 70000} {
		l := make([]api.Sec, n)
		for i := range l {
			l[i] = sec([]uint32{api.SymTab, api.StrTab, api.Rela, otherSec}[i%4], uint32(n-i))
			l[i].Name = uint32(i)
		}
		m := with(api.Form{Wide: true}, n/2, l...)
		m.Segs = make([]api.Seg, n)
		m.Secs[n/2-1] = names(strings.Repeat("\x00.debug", 100))
		ends(t, m)
		m.Str = 0
		ends(t, m)
	}
}

// TestP1Drawn holds models with several odd numbers at once, drawn by a fixed rule.
func TestP1Drawn(t *testing.T) {
	each(t, func(t *testing.T, f api.Form) {
		draw := drawn(1)
		for range 5000 {
			m := drawModel(f, draw)
			ints, numbers := oddInts(len(m.Secs)), oddNumbers(len(m.Secs))
			for range 1 + draw(5) {
				i, v := ints[draw(len(ints))], numbers[draw(len(numbers))]
				s, g := &m.Secs[draw(len(m.Secs))], &m.Segs[draw(len(m.Segs))]
				switch draw(9) {
				case 0:
					m.Str = i
				case 1:
					s.Link = uint32(v)
				case 2:
					s.Name = uint32(v)
				case 3:
					s.At.In = i
				case 4:
					s.At.Size = v
				case 5:
					s.At.Off = v
				case 6:
					s.At.Own = nil
				case 7:
					s.Size = v
				case 8:
					g.At.In, g.Vaddr = i, v
				}
			}
			ends(t, m)
		}
	})
}
