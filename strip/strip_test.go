package strip_test

import (
	"bytes"
	"fmt"
	"math"
	"slices"
	"strings"
	"testing"

	"bezant/api"
	"bezant/model"
	"bezant/strip"
)

// Types that mean nothing to this layer.
const (
	otherSeg = 4
	otherSec = 1
)

// text is a table of names: such as go, and their neighbours.
const text = "\x00.debug\x00.zdebug\x00.debug_info\x00.zdebug_line\x00.debu\x00.zdebu\x00.zzdebug\x00x.debug\x00x.zdebug_x\x00" +
	"debug\x00zdebug\x00.Debug\x00.zDebug\x00.debuG\x00.deb\x00ug\x00.text\x00..debug\x00.d\x00.z\x00.\x00 .debug\x00.debug.x\x00.debugger\x00.zdebugger\x00"

// str is the number of section Str in models that of tells.
const str = 1

// forms tells both classes in both orders.
func forms() []api.Form {
	return []api.Form{{}, {Big: true}, {Wide: true}, {Wide: true, Big: true}}
}

// each runs a test of both classes in both orders.
func each(t *testing.T, test func(t *testing.T, f api.Form)) {
	for _, f := range forms() {
		t.Run(fmt.Sprintf("%+v", f), func(t *testing.T) { test(t, f) })
	}
}

// top tells the greatest number of a class.
func top(f api.Form) uint64 {
	if f.Wide {
		return math.MaxUint64
	}
	return math.MaxUint32
}

// own tells a place that has these bytes as its own.
func own(b ...byte) api.Place { return api.Place{In: -1, Size: uint64(len(b)), Own: b} }

// in tells a place in a segment.
func in(i int, off, size uint64) api.Place { return api.Place{In: i, Off: off, Size: size} }

// fill tells n bytes, none of them 0, and neighbours other ones.
func fill(n, first int) []byte {
	b := make([]byte, n)
	for i := range b {
		b[i] = byte((first+i)%255 + 1)
	}
	return b
}

// named tells where a name stands in text, as one of its own.
func named(name string) uint32 {
	i := strings.Index(text, "\x00"+name+"\x00")
	if i < 0 {
		panic("no name " + name)
	}
	return uint32(i + 1)
}

// sec tells a section without a name, with bytes of its own where it may have some; none of its numbers is 0 but Link.
func sec(kind, link uint32) api.Sec {
	s := api.Sec{Type: kind, Flags: 1, Addr: 9, Size: 3, Link: link, Info: 8, Align: 4, Entsize: 7, At: own(kindByte(kind), 5, 6)}
	if kind == api.Null || kind == api.NoBits {
		s.At = own()
	}
	return s
}

// kindByte tells a byte that isn't 0.
func kindByte(kind uint32) byte { return byte(kind) | 1 }

// flagged tells a section with other Flags.
func flagged(flags uint64, s api.Sec) api.Sec {
	s.Flags = flags
	return s
}

// loaded tells a section that is loaded.
func loaded(s api.Sec) api.Sec { return flagged(api.Alloc, s) }

// called tells a section with a name of text.
func called(name string, s api.Sec) api.Sec {
	s.Name = named(name)
	return s
}

// with tells a model with these sections, of which the one of that number, from 1 on, has their names; 0: none has.
func with(f api.Form, number int, l ...api.Sec) api.Model {
	return api.Model{Ident: api.Ident{Form: f, OSABI: 3, ABI: 1}, Type: 3, Machine: 62, Flags: 5, Entry: 77, Secs: l, Str: number}
}

// names tells a section that has names.
func names(table string) api.Sec {
	return api.Sec{Type: api.StrTab, Size: uint64(len(table)), Align: 1, At: own([]byte(table)...)}
}

// of tells a model of section Str, with text, and these ones, the first of which has number 2.
func of(f api.Form, l ...api.Sec) api.Model {
	return with(f, str, append([]api.Sec{names(text)}, l...)...)
}

// goes holds that these sections of a model that may be go, and no others: x is one that goes, and a point one that stays.
func goes(t *testing.T, m api.Model, want string) {
	t.Helper()
	if err := model.Check(m); err != nil {
		t.Fatalf("the model may not be: %v, %s", err, brief(m))
	}
	if x := shown(told(m)); x != want {
		t.Errorf("the reference tells %s, not %s, of %s", x, want, brief(m))
	}
	agree(t, m)
}

// agree holds what Goes and Strip answer of a model that may be against the reference.
func agree(t *testing.T, m api.Model) {
	t.Helper()
	was, want := clone(m), told(m)
	if l := strip.Goes(m); !slices.Equal(l, want) {
		t.Errorf("%s, not %s, of %s", shown(l), shown(want), brief(m))
	}
	n := strip.Strip(m)
	if !model.Same(n, without(m, want)) {
		t.Errorf("%s, not %s", brief(n), brief(without(m, want)))
	}
	if !model.Same(m, was) {
		t.Errorf("what was handed in is changed: %s", brief(was))
	}
	if err := model.Check(n); err != nil {
		t.Errorf("%v is told of what is left of %s", err, brief(m))
	}
	if again := strip.Strip(n); !model.Same(again, n) {
		t.Errorf("done again: %s, not %s", brief(again), brief(n))
	}
}

// shown tells which sections go.
func shown(l []bool) string {
	s := ""
	for _, v := range l {
		if v {
			s += "x"
		} else {
			s += "."
		}
	}
	return s
}

// told tells which sections go, each by itself, and by the chapter's words.
func told(m api.Model) []bool {
	l := []bool{}
	for i := range m.Secs {
		l = append(l, early(m, i) || byLinks(m, i))
	}
	return l
}

// early tells whether a section goes whatever links to it.
func early(m api.Model, i int) bool { return byType(m, i) || byName(m, i) }

// mayGo tells whether a section is neither loaded nor section Str.
func mayGo(m api.Model, i int) bool { return m.Secs[i].Flags/2%2 == 0 && i+1 != m.Str }

func byType(m api.Model, i int) bool {
	k := m.Secs[i].Type
	return mayGo(m, i) && (k == 2 || k == 18 || k == 4 || k == 9)
}

func byName(m api.Model, i int) bool {
	if m.Str == 0 || !mayGo(m, i) {
		return false
	}
	name, _, _ := strings.Cut(string(m.Secs[m.Str-1].At.Own[m.Secs[i].Name:]), "\x00")
	return len(name) >= 6 && name[:6] == ".debug" || len(name) >= 7 && name[:7] == ".zdebug"
}

func byLinks(m api.Model, i int) bool {
	symbols, others := 0, 0
	for k, s := range m.Secs {
		if s.Link != uint32(i+1) {
			continue
		}
		if s.Type == 2 && byType(m, k) {
			symbols++
		}
		if !early(m, k) {
			others++
		}
	}
	return mayGo(m, i) && m.Secs[i].Type == 3 && symbols > 0 && others == 0
}

// without tells a model that shares no memory, with a section of 0s in the place of each one that goes.
func without(m api.Model, goes []bool) api.Model {
	m = clone(m)
	for i := range m.Secs {
		if goes[i] {
			m.Secs[i] = api.Sec{At: api.Place{In: -1}}
		}
	}
	return m
}

// clone tells a model that shares no memory.
func clone(m api.Model) api.Model {
	m.Segs, m.Secs = slices.Clone(m.Segs), slices.Clone(m.Secs)
	for i := range m.Segs {
		m.Segs[i].At.Own = bytes.Clone(m.Segs[i].At.Own)
	}
	for i := range m.Secs {
		m.Secs[i].At.Own = bytes.Clone(m.Secs[i].At.Own)
	}
	return m
}

// brief tells a model with few of its bytes, for there may be very many.
func brief(m api.Model) string {
	s := fmt.Sprintf("Entry %d, %d segments, Str %d, %d sections:", m.Entry, len(m.Segs), m.Str, len(m.Secs))
	for _, x := range m.Secs[:min(10, len(m.Secs))] {
		s += fmt.Sprintf(" {Name %d Type %d Flags %#x Link %d Size %d In %d Off %d, %d bytes: %v}", x.Name, x.Type, x.Flags, x.Link, x.Size, x.At.In, x.At.Off, len(x.At.Own), x.At.Own[:min(4, len(x.At.Own))])
	}
	return s
}

// full tells a model that may be, with all kinds of segments and of sections, new each time, and which of its sections go.
func full(f api.Form) (api.Model, string) {
	base := top(f)/2 + 1
	l := []api.Sec{
		called(".text", api.Sec{Type: otherSec, Flags: 6, Addr: base + 7, Size: 6, Align: 16, At: in(1, 2, 6)}),
		called(".debug_info", api.Sec{Type: otherSec, Addr: 3, Size: 9, Link: 7, Info: 6, Align: 2, Entsize: 1, At: own(fill(9, 50)...)}),
		api.Sec{Type: api.Rela, Flags: 2, Addr: base + 0x1003, Size: 3, Link: 4, Info: 1, Align: 8, Entsize: 24, At: in(2, 0, 3)},
		loaded(api.Sec{Type: api.StrTab, Addr: base + 0x1006, Size: 4, At: in(2, 3, 4)}),
		called(".zdebug_line", api.Sec{Type: otherSec, Flags: 0x30, Size: 2, Align: 1, Entsize: 1, At: in(1, 8, 2)}),
		api.Sec{Type: api.SymTab, Flags: 0x40, Size: 5, Link: 7, Info: 3, Align: 8, Entsize: 24, At: own(fill(5, 60)...)},
		api.Sec{Type: api.StrTab, Size: 4, Align: 1, At: own(0, 65, 66, 0)},
		called(".text", names(text)),
		called(".", api.Sec{Type: api.NoBits, Flags: 3, Addr: base + 0x2000, Size: base + 8, Align: 32, At: own()}),
		called(".debug", api.Sec{Type: api.NoBits, Addr: base, Size: top(f), Align: top(f), Entsize: top(f), Info: math.MaxUint32, At: own()}),
		api.Sec{Type: api.SymTabNdx, Size: 1, Link: 6, At: in(2, 6, 1)},
		api.Sec{Type: api.RelTab, Size: 1, Link: 6, Info: 1, At: own(0)},
		called(".debu", api.Sec{Type: api.Null, Flags: 0x31, Addr: 5, Size: 99, Link: 2, Info: 4, Align: 3, Entsize: 2, At: own()}),
		called(".debug_info", api.Sec{Type: 0x6ffffff6, Flags: 2, Size: 8, Link: 14, Align: 8, At: own(fill(8, 70)...)}),
		api.Sec{Type: api.StrTab, Flags: 0x20, Size: 3, Link: 15, At: own(0, 67, 0)},
		api.Sec{Type: api.StrTab, Size: 3, Link: 7, At: in(1, 0, 3)},
	}
	l[15].Link = 0
	return api.Model{
		Ident: api.Ident{Form: f, OSABI: 3, ABI: 1}, Type: 3, Machine: 62, Flags: 0x01020304, Entry: base + 6,
		Segs: []api.Seg{
			{Type: api.Dynamic, Flags: 6, Vaddr: base + 0x1004, Paddr: base + 0x77, Memsz: 4, Align: 8, At: in(2, 1, 4)},
			{Type: api.Load, Flags: 5, Vaddr: base + 5, Paddr: base + 0x99, Memsz: 20, Align: 64, At: own(fill(10, 10)...)},
			{Type: api.Load, Flags: 6, Vaddr: base + 0x1003, Memsz: 7, At: own(fill(7, 30)...)},
			{Type: otherSeg, Flags: 4, Memsz: 3, Align: 4, At: own(fill(5, 40)...)},
			{Type: api.Load, Flags: 0x80000007, Vaddr: base + 0x2000, Memsz: 8, Align: 8, At: own()},
			{Type: 0x6474e551, Flags: 0x80000006, Vaddr: 5, Align: 16, At: own()},
		},
		Secs: l, Str: 8,
	}, ".x..xxx..xxx...."
}

func TestP18_1Full(t *testing.T) {
	each(t, func(t *testing.T, f api.Form) {
		m, want := full(f)
		goes(t, m, want)
		n, was := strip.Strip(m), m.Secs
		if len(n.Secs) != len(was) || n.Str != 8 || n.Entry != m.Entry || len(n.Segs) != 6 {
			t.Fatal(brief(n))
		}
		for i, s := range n.Secs {
			if want[i] == 'x' {
				if s.Name != 0 || s.Type != 0 || s.Flags != 0 || s.Addr != 0 || s.Size != 0 || s.Link != 0 || s.Info != 0 || s.Align != 0 || s.Entsize != 0 {
					t.Error("a number of one that goes isn't 0", i, s)
				}
				if s.At.In != -1 || s.At.Off != 0 || s.At.Size != 0 || len(s.At.Own) != 0 {
					t.Error("the place of one that goes", i, s.At)
				}
				continue
			}
			w := was[i]
			if s.Name != w.Name || s.Type != w.Type || s.Flags != w.Flags || s.Addr != w.Addr || s.Size != w.Size || s.Link != w.Link || s.Info != w.Info || s.Align != w.Align || s.Entsize != w.Entsize {
				t.Error("a number of one that stays isn't as it was", i, s)
			}
			if s.At.In != w.At.In || s.At.Off != w.At.Off || s.At.Size != w.At.Size || !bytes.Equal(s.At.Own, w.At.Own) {
				t.Error("the place of one that stays isn't as it was", i, s.At)
			}
		}
	})
}
