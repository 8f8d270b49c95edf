package strip_test

import (
	"slices"
	"testing"

	"bezant/api"
)

// shuffled holds a model of section Str and these sections, and each other order of them; Links tell of this order.
func shuffled(t *testing.T, f api.Form, want string, l ...api.Sec) {
	t.Helper()
	m := of(f, l...)
	goes(t, m, want)
	orders(len(m.Secs), func(to []int) {
		n, shown := m, make([]byte, len(want))
		n.Secs, n.Str = make([]api.Sec, len(m.Secs)), to[m.Str-1]+1
		for i, s := range m.Secs {
			if s.Link > 0 {
				s.Link = uint32(to[s.Link-1] + 1)
			}
			n.Secs[to[i]], shown[to[i]] = s, want[i]
		}
		goes(t, n, string(shown))
	})
}

// orders tells each order of n numbers.
func orders(n int, yield func(to []int)) {
	var further func(to []int)
	further = func(to []int) {
		if len(to) == n {
			yield(to)
		}
		for i := range n {
			if !slices.Contains(to, i) {
				further(append(to[:len(to):len(to)], i))
			}
		}
	}
	further(nil)
}

// table tells a section of names that are not those of sections.
func table(link uint32) api.Sec { return sec(api.StrTab, link) }

// TestP18_1Tables holds sections of names that symbols link to which go.
func TestP18_1Tables(t *testing.T) {
	each(t, func(t *testing.T, f api.Form) {
		shuffled(t, f, ".xx", sec(api.SymTab, 3), table(0))
		shuffled(t, f, ".xxx", sec(api.SymTab, 4), sec(api.SymTab, 4), table(0))
		shuffled(t, f, ".xxxx", sec(api.SymTab, 4), sec(api.SymTab, 5), table(0), table(0))
		// Symbols that go by their name as well.
		shuffled(t, f, ".xx", called(".debug", sec(api.SymTab, 3)), table(0))
		goes(t, with(f, 0, sec(api.SymTab, 2), table(0)), "xx")
		goes(t, with(f, 0, table(0), sec(api.SymTab, 1)), "xx")
	})
}

// TestP18_1TablesOfNone holds those that no section links to, or that only ones link to which go, but are no symbols.
func TestP18_1TablesOfNone(t *testing.T) {
	each(t, func(t *testing.T, f api.Form) {
		shuffled(t, f, "..", table(0))
		shuffled(t, f, ".x.", sec(api.SymTab, 0), table(0))
		shuffled(t, f, ".x.", sec(api.SymTab, 2), table(0))
		shuffled(t, f, ".x.", sec(api.SymTab, str), table(0))
		for _, k := range []uint32{api.Rela, api.RelTab, api.SymTabNdx} {
			shuffled(t, f, ".x.", sec(k, 3), table(0))
			shuffled(t, f, ".xx.", sec(k, 4), sec(k, 4), table(0))
			shuffled(t, f, ".xx.", sec(k, 4), sec(api.SymTab, 2), table(0))
		}
		shuffled(t, f, ".x.", called(".debug", sec(otherSec, 3)), table(0))
		shuffled(t, f, ".x.", called(".debug", table(3)), table(0))
		shuffled(t, f, ".xxxx.", called(".zdebug", sec(11, 6)), sec(api.Rela, 6), sec(api.RelTab, 6), sec(api.SymTabNdx, 6), table(0))
	})
}

// TestP18_1TablesOfSeveral holds those that symbols link to which go, and others.
func TestP18_1TablesOfSeveral(t *testing.T) {
	each(t, func(t *testing.T, f api.Form) {
		// Others that go as well.
		for _, k := range []uint32{api.Rela, api.RelTab, api.SymTabNdx} {
			shuffled(t, f, ".xxx", sec(api.SymTab, 4), sec(k, 4), table(0))
		}
		shuffled(t, f, ".xxx", sec(api.SymTab, 4), called(".debug", sec(otherSec, 4)), table(0))
		shuffled(t, f, ".xxx", sec(api.SymTab, 4), called(".zdebug", table(4)), table(0))
		// Others that stay.
		for _, k := range []uint32{api.Null, otherSec, 6, api.NoBits, 11, 17, 19} {
			shuffled(t, f, ".x..", sec(api.SymTab, 4), sec(k, 4), table(0))
			shuffled(t, f, ".x..", sec(api.SymTab, 4), called(".debu", sec(k, 4)), table(0))
			shuffled(t, f, ".x..", sec(api.SymTab, 4), loaded(called(".debug", sec(k, 4))), table(0))
		}
		for _, k := range kinds() {
			shuffled(t, f, ".x..", sec(api.SymTab, 4), loaded(sec(k, 4)), table(0))
			shuffled(t, f, "...", loaded(sec(k, 3)), table(0))
		}
		shuffled(t, f, ".x..", sec(api.SymTab, 4), table(4), table(0))
		shuffled(t, f, ".x.x.", sec(api.SymTab, 5), sec(otherSec, 5), sec(api.Rela, 5), table(0))
	})
}

// TestP18_1TablesOfStr holds one that section Str links to, and symbols that go.
func TestP18_1TablesOfStr(t *testing.T) {
	each(t, func(t *testing.T, f api.Form) {
		for _, name := range []string{"", ".debug"} {
			m := of(f, sec(api.SymTab, 3), table(0))
			m.Secs[0].Link = 3
			if name != "" {
				m.Secs[0].Name = named(name)
			}
			goes(t, m, ".x.")
			m.Secs[0].Link = 2
			goes(t, m, ".xx")
			m.Secs[0].Link = str
			goes(t, m, ".xx")
		}
	})
}

// TestP18_1TablesOfTables holds that a table which goes only as one keeps the one that it links to.
func TestP18_1TablesOfTables(t *testing.T) {
	each(t, func(t *testing.T, f api.Form) {
		shuffled(t, f, ".xxx.", sec(api.SymTab, 4), sec(api.SymTab, 5), table(5), table(0))
		shuffled(t, f, ".xx.", sec(api.SymTab, 3), table(4), table(0))
		// It would go, if that one went by its name.
		shuffled(t, f, ".xxxx", sec(api.SymTab, 4), sec(api.SymTab, 5), called(".debug", table(5)), table(0))
		// A chain: just the one that no table links to goes.
		m := of(f, sec(api.SymTab, 5), sec(api.SymTab, 6), sec(api.SymTab, 7), table(6), table(7), table(0))
		goes(t, m, ".xxxx..")
		m = of(f, table(0), table(2), table(3), sec(api.SymTab, 4), sec(api.SymTab, 3), sec(api.SymTab, 2))
		goes(t, m, "...xxxx")
	})
}

// TestP18_1TablesInRings holds those that link to themselves, and to one another.
func TestP18_1TablesInRings(t *testing.T) {
	each(t, func(t *testing.T, f api.Form) {
		shuffled(t, f, "..", table(2))
		shuffled(t, f, ".x.", sec(api.SymTab, 3), table(3))
		shuffled(t, f, ".x", called(".debug", table(2)))
		shuffled(t, f, ".xx", sec(api.SymTab, 3), called(".debug", table(3)))
		shuffled(t, f, "...", table(3), table(2))
		shuffled(t, f, ".x..", sec(api.SymTab, 3), table(4), table(3))
		shuffled(t, f, ".xx..", sec(api.SymTab, 4), sec(api.SymTab, 5), table(5), table(4))
		shuffled(t, f, ".xxxx", sec(api.SymTab, 4), sec(api.SymTab, 5), called(".debug", table(5)), table(4))
		shuffled(t, f, ".xxx.", sec(api.SymTab, 4), sec(api.SymTab, 4), called(".debug", table(5)), table(4))
		goes(t, of(f, sec(api.SymTab, 5), sec(api.SymTab, 6), sec(api.SymTab, 7), table(6), table(7), table(5)), ".xxx...")
		// Symbols that link to themselves, and to their neighbour.
		shuffled(t, f, ".x", sec(api.SymTab, 2))
		shuffled(t, f, ".xx.", sec(api.SymTab, 3), sec(api.SymTab, 2), table(0))
	})
}

// TestP18_1TablesThatStay holds ones that are loaded, section Str itself, and those of other Types.
func TestP18_1TablesThatStay(t *testing.T) {
	each(t, func(t *testing.T, f api.Form) {
		shuffled(t, f, ".x.", sec(api.SymTab, 3), loaded(table(0)))
		shuffled(t, f, ".x.", sec(api.SymTab, 3), loaded(called(".debug", table(0))))
		shuffled(t, f, ".x", sec(api.SymTab, str))
		shuffled(t, f, ".xx", sec(api.SymTab, str), sec(api.Rela, str))
		for _, k := range beside() {
			if k != api.StrTab {
				goes(t, of(f, sec(api.SymTab, 3), sec(k, 0)), ".x.")
				goes(t, of(f, sec(k, 0), sec(api.SymTab, 2)), "..x")
			}
		}
	})
}

// TestP18_1TablesByName holds ones that go by their name, whatever links to them.
func TestP18_1TablesByName(t *testing.T) {
	each(t, func(t *testing.T, f api.Form) {
		for _, name := range []string{".debug", ".zdebug", ".debug_info"} {
			x := called(name, table(0))
			shuffled(t, f, ".x", x)
			shuffled(t, f, "..x", sec(otherSec, 3), x)
			shuffled(t, f, ".xx", sec(api.SymTab, 3), x)
			shuffled(t, f, ".x.x", sec(api.SymTab, 4), loaded(sec(otherSec, 4)), x)
		}
	})
}

// TestP18_1LinkEdges holds Links of 0, which are none, and to the first and the last section.
func TestP18_1LinkEdges(t *testing.T) {
	each(t, func(t *testing.T, f api.Form) {
		goes(t, with(f, 0, table(0), sec(api.SymTab, 0)), ".x")
		goes(t, with(f, 0, table(0), sec(api.SymTab, 1), sec(otherSec, 0)), "xx.")
		goes(t, with(f, 0, sec(otherSec, 0), sec(api.SymTab, 3), table(0)), ".xx")
		goes(t, with(f, 0, sec(api.SymTab, 3), sec(api.SymTab, 2), table(0)), "xxx")
		for n := 2; n <= 64; n++ {
			l := make([]api.Sec, n)
			for i := range l {
				l[i] = table(0)
			}
			want := make([]byte, n)
			for i := range n {
				for k := range want {
					want[k] = '.'
				}
				m := with(f, 0, slices.Clone(l)...)
				from := (i*7 + n) % n
				if from == i {
					continue
				}
				m.Secs[from], want[from], want[i] = sec(api.SymTab, uint32(i+1)), 'x', 'x'
				goes(t, m, string(want))
			}
		}
	})
}
