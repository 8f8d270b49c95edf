package strip_test

import (
	"math"
	"slices"
	"strings"
	"testing"

	"bezant/api"
	"bezant/model"
	"bezant/strip"
)

func TestP18_1NoSections(t *testing.T) {
	each(t, func(t *testing.T, f api.Form) {
		whole, _ := full(f)
		for _, m := range []api.Model{{Ident: api.Ident{Form: f}}, with(f, 0), {Ident: whole.Ident, Entry: 9, Segs: whole.Segs}} {
			for _, l := range [][]api.Sec{nil, {}, whole.Secs[:0]} {
				m.Secs = l
				goes(t, m, "")
				if l := strip.Goes(m); len(l) != 0 {
					t.Error(l)
				}
				if n := strip.Strip(m); !model.Same(n, m) {
					t.Error(brief(n))
				}
			}
		}
	})
	if l := strip.Goes(api.Model{}); len(l) != 0 {
		t.Error(l)
	}
	if n := strip.Strip(api.Model{}); !model.Same(n, api.Model{}) {
		t.Error(brief(n))
	}
}

// beside tells Types that don't go by themselves: neighbours of those that do, and numbers that have their lowest bytes.
func beside() []uint32 {
	l := []uint32{0, 1, 3, 5, 6, 7, 8, 10, 11, 12, 13, 14, 15, 16, 17, 19, 20, 21, 32, 34, 36, 41, 50, 66, 68, 73, 82, 130, 132, 137, 146}
	for _, k := range kinds() {
		for _, b := range []uint32{1 << 8, 1 << 16, 1 << 24, 1 << 31} {
			l = append(l, b|k)
		}
		l = append(l, math.MaxUint32-k, ^uint32(1<<k))
	}
	return append(l, 0x6ffffff6, 0x6ffffffd, 0x6ffffffe, 0x6fffffff, 0x70000001, math.MaxUint32)
}

// kinds tells the Types that go.
func kinds() []uint32 { return []uint32{api.SymTab, api.Rela, api.RelTab, api.SymTabNdx} }

func TestP18_1Types(t *testing.T) {
	each(t, func(t *testing.T, f api.Form) {
		for _, k := range kinds() {
			goes(t, of(f, sec(k, 0)), ".x")
			goes(t, of(f, called(".text", sec(k, 0))), ".x")
			goes(t, with(f, 0, sec(k, 0)), "x")
			goes(t, with(f, 0, sec(k, 1)), "x")
			goes(t, with(f, 0, sec(otherSec, 0), sec(k, 1), sec(otherSec, 2), sec(k, 3)), ".x.x")
			goes(t, with(f, 2, sec(k, 0), names(text), sec(k, 0)), "x.x")
		}
		for _, k := range beside() {
			if slices.Contains(kinds(), k) {
				t.Fatal(k)
			}
			goes(t, of(f, sec(k, 0)), "..")
			goes(t, with(f, 0, sec(k, 0)), ".")
			goes(t, with(f, 0, sec(k, 1)), ".")
			goes(t, with(f, 0, sec(otherSec, 2), sec(k, 1), sec(api.Rela, 2)), "..x")
		}
	})
}

// TestP18_1AllTypes holds each Type up to 300.
func TestP18_1AllTypes(t *testing.T) {
	for k := range uint32(300) {
		want := "."
		if k == 2 || k == 4 || k == 9 || k == 18 {
			want = "x"
		}
		goes(t, with(api.Form{}, 0, sec(k, 0)), want)
		goes(t, with(api.Form{Wide: true}, 0, loaded(sec(k, 0))), ".")
		goes(t, of(api.Form{Big: true}, called(".debug", sec(k, 0))), ".x")
		goes(t, of(api.Form{Big: true}, loaded(called(".debug", sec(k, 0)))), "..")
	}
}

// TestP18_1Flags holds that of Flags just bit 1 has a say.
func TestP18_1Flags(t *testing.T) {
	each(t, func(t *testing.T, f api.Form) {
		l := []uint64{0, 5, 0x70, 0xfd, top(f) - api.Alloc, top(f)/2 - api.Alloc}
		for v := uint64(1); v != 0 && v <= top(f); v <<= 1 {
			if v != api.Alloc {
				l = append(l, v)
			}
		}
		for _, v := range l {
			for _, k := range kinds() {
				goes(t, of(f, flagged(v, sec(k, 0))), ".x")
				goes(t, of(f, flagged(v+2, sec(k, 0))), "..")
			}
			for _, name := range []string{".debug", ".zdebug"} {
				goes(t, of(f, flagged(v, called(name, sec(otherSec, 0)))), ".x")
				goes(t, of(f, flagged(v+2, called(name, sec(otherSec, 0)))), "..")
			}
			goes(t, of(f, sec(api.SymTab, 3), flagged(v, sec(api.StrTab, 0))), ".xx")
			goes(t, of(f, sec(api.SymTab, 3), flagged(v+2, sec(api.StrTab, 0))), ".x.")
			goes(t, of(f, flagged(v, sec(api.SymTab, 3)), sec(api.StrTab, 0)), ".xx")
			goes(t, of(f, flagged(v+2, sec(api.SymTab, 3)), sec(api.StrTab, 0)), "...")
		}
	})
}

// TestP18_1Str holds that section Str stays, by whichever way it would go.
func TestP18_1Str(t *testing.T) {
	each(t, func(t *testing.T, f api.Form) {
		for _, name := range []string{".debug", ".zdebug", ".debug_info", ".zdebug_line"} {
			goes(t, with(f, 1, called(name, names(text))), ".")
			goes(t, with(f, 2, sec(api.Rela, 2), called(name, names(text)), sec(api.SymTab, 2)), "x.x")
			goes(t, with(f, 2, sec(otherSec, 2), called(name, names(text)), sec(otherSec, 0)), "...")
		}
		goes(t, of(f, sec(api.SymTab, str)), ".x")
		goes(t, of(f, sec(api.SymTab, str), sec(api.SymTab, str), sec(api.Rela, str)), ".xxx")
		goes(t, of(f, sec(api.SymTab, str), sec(otherSec, str)), ".x.")
		// The same section goes, if it isn't section Str.
		l := []api.Sec{sec(api.SymTab, 2), names(text), called(".debug", names(text))}
		goes(t, with(f, 2, l...), "x.x")
		goes(t, with(f, 3, l...), "xx.")
		l[2].Name = 0
		goes(t, with(f, 0, l...), "xx.")
		// One of those Types may not be section Str; it would stay.
		for _, k := range kinds() {
			m := of(f, sec(k, 0))
			m.Secs[0].Type = k
			if l := strip.Goes(m); model.Check(m) == nil || shown(l) != ".x" {
				t.Error(k, l)
			}
		}
	})
}

func TestP18_1Names(t *testing.T) {
	gone := []string{".debug", ".zdebug", ".debug_info", ".zdebug_line", ".debug.x", ".debugger", ".zdebugger"}
	stay := []string{
		"", ".debu", ".zdebu", ".zzdebug", "x.debug", "x.zdebug_x", "debug", "zdebug", ".Debug", ".zDebug", ".debuG", ".deb", "ug",
		".text", "..debug", ".d", ".z", ".", " .debug",
	}
	each(t, func(t *testing.T, f api.Form) {
		for _, k := range []uint32{otherSec, api.Null, api.NoBits, api.StrTab, 6, 7, 11, math.MaxUint32} {
			for _, name := range gone {
				goes(t, of(f, called(name, sec(k, 0))), ".x")
				goes(t, of(f, loaded(called(name, sec(k, 0)))), "..")
				goes(t, with(f, 2, called(name, sec(k, 0)), names(text)), "x.")
			}
			for _, name := range stay {
				s := sec(k, 0)
				if name != "" {
					s = called(name, s)
				}
				goes(t, of(f, s), "..")
				goes(t, with(f, 2, s, names(text)), "..")
			}
		}
	})
}

// TestP18_1NamesInOthers holds names that begin in the middle of another one, each byte of a table.
func TestP18_1NamesInOthers(t *testing.T) {
	for _, f := range forms() {
		found := 0
		for i := range text {
			s := sec(otherSec, 0)
			s.Name = uint32(i)
			name := text[i : i+strings.Index(text[i:], "\x00")]
			want := ".."
			if strings.HasPrefix(name, ".debug") || strings.HasPrefix(name, ".zdebug") {
				want = ".x"
				found++
			}
			goes(t, of(f, s), want)
		}
		// Seven by themselves, and the ends of x.debug, x.zdebug_x, ..debug and ( .debug).
		if found != 11 {
			t.Error(found)
		}
		m := of(f, called("x.debug", sec(otherSec, 0)))
		goes(t, m, "..")
		m.Secs[1].Name++
		goes(t, m, ".x")
		m.Secs[1].Name++
		goes(t, m, "..")
		m = of(f, called("x.zdebug_x", sec(otherSec, 0)))
		m.Secs[1].Name++
		goes(t, m, ".x")
		m = of(f, called(".zdebug", sec(otherSec, 0)))
		m.Secs[1].Name += 2
		goes(t, m, "..")
	}
}

// TestP18_1NameAtTheBeginning holds tables whose first byte is that of a name: sections without a Name have it.
func TestP18_1NameAtTheBeginning(t *testing.T) {
	for _, f := range forms() {
		for table, want := range map[string]string{
			".debug\x00": ".x.x", ".zdebug_x\x00": ".x.x", ".debu\x00g\x00": ".x..", ".zdebu\x00": ".x..", "x.debug\x00": ".x..", "\x00.debug\x00": ".x..", "\x00": ".x..",
		} {
			goes(t, with(f, 1, names(table), sec(api.Rela, 0), loaded(sec(otherSec, 0)), sec(otherSec, 0)), want)
		}
		// What goes has a name that goes then, and is told so.
		m := strip.Strip(with(f, 1, names(".debug\x00"), sec(otherSec, 0), sec(api.Null, 0)))
		goes(t, m, ".xx")
		m = strip.Strip(of(f, called(".debug", sec(otherSec, 0))))
		goes(t, m, "..")
	}
}

// TestP18_1NameAtTheEnd holds names whose 0 is the table's last byte, and the empty one there.
func TestP18_1NameAtTheEnd(t *testing.T) {
	for _, f := range forms() {
		for _, table := range []string{"\x00.debug\x00", "\x00abc.debug\x00", "\x00.zdebug\x00", "\x00.debu\x00", "\x00xyzdebu\x00"} {
			for i := range table {
				s := sec(otherSec, 0)
				s.Name = uint32(i)
				want := ".."
				if x := table[i:]; x == ".debug\x00" || x == ".zdebug\x00" {
					want = ".x"
				}
				goes(t, with(f, 1, names(table), s), want)
			}
		}
	}
}

// TestP18_1NoStr holds that without section Str no section has a name, whatever other ones have as bytes.
func TestP18_1NoStr(t *testing.T) {
	each(t, func(t *testing.T, f api.Form) {
		goes(t, with(f, 0, names(".debug\x00"), sec(otherSec, 1), sec(api.Rela, 1), sec(api.NoBits, 0)), "..x.")
		goes(t, with(f, 0, names(".zdebug\x00")), ".")
		goes(t, with(f, 0, names(text), sec(api.SymTab, 1)), "xx")
		// The same with names.
		goes(t, with(f, 1, names(".debug\x00"), sec(otherSec, 1), sec(api.Rela, 1), sec(api.NoBits, 0)), ".xxx")
	})
}

// TestP18_1NamesOfStr holds that names are those in section Str's bytes, and in no others.
func TestP18_1NamesOfStr(t *testing.T) {
	each(t, func(t *testing.T, f api.Form) {
		l := []api.Sec{names("\x00.debug\x00"), names("\x00.text.x\x00"), sec(otherSec, 0)}
		l[2].Name = 1
		goes(t, with(f, 1, l...), "..x")
		goes(t, with(f, 2, l...), "...")
		l[0].Name = 1
		goes(t, with(f, 1, l...), "..x")
		l[1].Name = 1
		goes(t, with(f, 1, l...), ".xx")
		goes(t, with(f, 2, l...), "...")
	})
}

// TestP18_1LongNames holds very long names, and one far behind in its table.
func TestP18_1LongNames(t *testing.T) {
	each(t, func(t *testing.T, f api.Form) {
		long := strings.Repeat("x", 60000)
		s := sec(otherSec, 0)
		s.Name = 1
		goes(t, with(f, 1, names("\x00.debug"+long+"\x00"), s), ".x")
		goes(t, with(f, 1, names("\x00.debu"+long+".debug\x00"), s), "..")
		s.Name = 60001
		goes(t, with(f, 1, names("\x00"+long+".debug\x00"), s), ".x")
		goes(t, with(f, 1, names("\x00"+long+".debux\x00"), s), "..")
	})
}

// TestP18_1ManySections holds as many sections as there may be.
func TestP18_1ManySections(t *testing.T) {
	each(t, func(t *testing.T, f api.Form) {
		for n := range 64 {
			l := make([]api.Sec, 64)
			want := []byte(strings.Repeat(".", 64))
			for i := range l {
				l[i] = sec(api.NoBits, uint32(i))
				if (i+n)%3 == 0 {
					l[i], want[i] = sec(kinds()[i%4], 0), 'x'
				}
			}
			l[n], want[n] = called(".debug", names(text)), '.'
			goes(t, with(f, n+1, l...), string(want))
		}
	})
}
