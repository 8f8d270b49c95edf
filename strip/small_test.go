package strip_test

import (
	"slices"
	"testing"

	"bezant/api"
)

// smallSecs tells sections of all kinds that have a say, with this Link.
func smallSecs(link uint32) []api.Sec {
	return []api.Sec{
		sec(otherSec, link), sec(api.SymTab, link), sec(api.StrTab, link), loaded(sec(api.SymTab, link)), sec(api.RelTab, link),
		called(".debug", sec(api.StrTab, link)), loaded(sec(api.StrTab, link)), called(".zdebug", sec(api.SymTab, link)), called(".debug", sec(otherSec, link)),
	}
}

// lists tells each list of n sections, of these kinds, with each Link up to last.
func lists(n int, kinds func(link uint32) []api.Sec, last uint32, yield func(l []api.Sec)) {
	var further func(l []api.Sec)
	further = func(l []api.Sec) {
		if len(l) == n {
			yield(slices.Clone(l))
			return
		}
		for link := range last + 1 {
			for _, s := range kinds(link) {
				further(append(l[:len(l):len(l)], s))
			}
		}
	}
	further(nil)
}

// TestP18_1SmallModels holds all lists of up to three small sections, with section Str ahead of them, behind them, or none.
func TestP18_1SmallModels(t *testing.T) {
	f := api.Form{Wide: true}
	for n := range 3 {
		last := uint32(n + 1)
		lists(n, smallSecs, last, func(l []api.Sec) {
			for link := range last + 1 {
				s := names(text)
				s.Link = link
				agree(t, with(f, 1, append([]api.Sec{s}, l...)...))
				agree(t, with(f, n+1, append(slices.Clone(l), s)...))
			}
		})
	}
	count := 0
	lists(3, smallSecs, 4, func(l []api.Sec) {
		// Each fourth of them has its section Str at another place.
		count++
		at := count % 4
		agree(t, with(f, at+1, slices.Insert(l, at, names(text))...))
	})
	if count != 45*45*45 {
		t.Error(count)
	}
}

// TestP18_1SmallModelsWithoutNames holds all lists of up to four sections of fewer kinds, in models without section Str.
func TestP18_1SmallModelsWithoutNames(t *testing.T) {
	kinds := func(link uint32) []api.Sec {
		return []api.Sec{sec(otherSec, link), sec(api.SymTab, link), sec(api.StrTab, link)}
	}
	for n := range 5 {
		lists(n, kinds, uint32(n), func(l []api.Sec) { agree(t, with(api.Form{Big: true}, 0, l...)) })
	}
}

// drawn tells numbers below n, by a fixed rule.
func drawn(state uint64) func(n int) int {
	return func(n int) int {
		state = state*6364136223846793005 + 1442695040888963407
		return int(state>>33) % n
	}
}

// drawSec tells a section that is drawn, for a model of that many sections, whose names stand in text.
func drawSec(f api.Form, draw func(n int) int, n int) api.Sec {
	kinds := []uint32{api.SymTab, api.SymTab, api.StrTab, api.StrTab, api.StrTab, api.Rela, api.RelTab, api.SymTabNdx, otherSec, api.NoBits, api.Null, 11}
	s := sec(kinds[draw(len(kinds))], uint32(draw(n+1)))
	s.Flags = []uint64{0, 0, 0, 1, 2, 4, 0xfd, top(f), top(f) - 2}[draw(9)]
	if draw(3) == 0 {
		s.Name = uint32(draw(len(text)))
	}
	if draw(4) == 0 && s.Size > 0 && s.At.Size > 0 {
		s.Size, s.At = 2, in(1, uint64(draw(9)), 2)
	}
	return s
}

// drawModel tells a model that may be, with up to 64 sections.
func drawModel(f api.Form, draw func(n int) int) api.Model {
	m, _ := full(f)
	n := 1 + draw(12)
	if draw(10) == 0 {
		n = 64 - draw(3)
	}
	m.Secs, m.Str = nil, 1+draw(n)
	for range n {
		m.Secs = append(m.Secs, drawSec(f, draw, n))
	}
	s := names(text)
	s.Link = uint32(draw(n + 1))
	m.Secs[m.Str-1] = s
	return m
}

// TestP18_1DrawnModels holds models of many sections, drawn by a fixed rule.
func TestP18_1DrawnModels(t *testing.T) {
	each(t, func(t *testing.T, f api.Form) {
		draw := drawn(18)
		byTable := 0
		for range 3000 {
			m := drawModel(f, draw)
			goes(t, m, shown(told(m)))
			for i := range m.Secs {
				if !early(m, i) && byLinks(m, i) {
					byTable++
				}
			}
		}
		if byTable < 300 {
			t.Error("too few tables go:", byTable)
		}
	})
}
