package span_test

import (
	"math"
	"math/big"
	"slices"
	"testing"

	"bezant/span"
)

const top = math.MaxUint64

func at(from, size uint64) span.Span { return span.Span{From: from, Size: size} }

// edges tells stretches at both ends of all numbers, around 2^63, without numbers, and beyond 2^64.
func edges() []span.Span {
	numbers := []uint64{0, 1, 2, 5, 1<<32 - 1, 1 << 32, 1<<63 - 1, 1 << 63, 1<<63 + 1, top - 5, top - 2, top - 1, top}
	var all []span.Span
	for _, from := range numbers {
		for _, size := range numbers {
			all = append(all, at(from, size))
		}
	}
	return all
}

// end tells the first number behind a stretch, which may be 2^64.
func end(s span.Span) *big.Int {
	e := new(big.Int).SetUint64(s.From)
	e.Add(e, new(big.Int).SetUint64(s.Size))
	limit := new(big.Int).Lsh(big.NewInt(1), 64)
	if e.Cmp(limit) > 0 {
		return limit
	}
	return e
}

// meetReference tells whether the greater From is below both ends, by numbers that don't wrap.
func meetReference(a, b span.Span) bool {
	from := new(big.Int).SetUint64(max(a.From, b.From))
	return from.Cmp(end(a)) < 0 && from.Cmp(end(b)) < 0
}

func clashReference(l []span.Span) (int, int, bool) {
	for k := range l {
		for i := range k {
			if meetReference(l[i], l[k]) {
				return i, k, true
			}
		}
	}
	return 0, 0, false
}

// risingReference holds every two, not only neighbours. The end of one without numbers is its From.
func risingReference(l []span.Span) bool {
	for k := range l {
		for i := range k {
			if end(l[i]).Cmp(new(big.Int).SetUint64(l[k].From)) > 0 {
				return false
			}
		}
	}
	return true
}

// members tells each number of a short stretch.
func members(s span.Span) map[uint64]bool {
	all := map[uint64]bool{}
	for i := range s.Size {
		if s.From > top-i {
			break
		}
		all[s.From+i] = true
	}
	return all
}

func share(a, b map[uint64]bool) bool {
	for v := range a {
		if b[v] {
			return true
		}
	}
	return false
}

func allBelow(s span.Span, v uint64) bool {
	if s.Size == 0 {
		return s.From <= v
	}
	for n := range members(s) {
		if n >= v {
			return false
		}
	}
	return true
}

// short tells short stretches at the beginning and at the end of all numbers.
func short() []span.Span {
	var all []span.Span
	for from := range uint64(6) {
		for size := range uint64(8) {
			all = append(all, at(from, size), at(top-from, size))
		}
	}
	return all
}

func TestP2_1MeetCases(t *testing.T) {
	for _, c := range []struct {
		name string
		a, b span.Span
		want bool
	}{
		{"the same", at(3, 4), at(3, 4), true},
		{"one number, the same", at(3, 1), at(3, 1), true},
		{"one number each, next to each other", at(3, 1), at(4, 1), false},
		{"the last and the first in common", at(0, 5), at(4, 5), true},
		{"they only touch", at(0, 5), at(5, 5), false},
		{"apart", at(0, 5), at(7, 5), false},
		{"one inside the other", at(0, 9), at(3, 2), true},
		{"one inside, at the beginning", at(3, 9), at(3, 1), true},
		{"one inside, at the end", at(3, 9), at(11, 1), true},
		{"without numbers, inside", at(4, 0), at(0, 9), false},
		{"without numbers, at the beginning", at(0, 0), at(0, 9), false},
		{"both without numbers", at(4, 0), at(4, 0), false},
		{"without numbers, at 0", at(0, 0), at(0, 0), false},
		{"without numbers, in all", at(9, 0), at(0, top), false},
		{"the last number", at(top, 1), at(top, 1), true},
		{"without numbers, at the last number", at(top, 0), at(top, 1), false},
		{"beyond 2^64, and the last number", at(top-3, 100), at(top, 1), true},
		{"beyond 2^64, and what a sum that wraps reaches", at(top-3, 100), at(0, 50), false},
		{"beyond 2^64, both", at(top-3, top), at(top-1, top), true},
		{"to 2^64 itself, and 0", at(top-3, 4), at(0, 1), false},
		{"to 2^64 itself, and the last number", at(top-3, 4), at(top, 1), true},
		{"up to the last number but one", at(top-3, 3), at(top, 1), false},
		{"all but the last number, and it", at(0, top), at(top, 1), false},
		{"all but the last number, and the one ahead of it", at(0, top), at(top-1, 1), true},
		{"all but 0, and 0", at(1, top), at(0, 1), false},
		{"all but 0, and the last number", at(1, top), at(top, 1), true},
		{"two halves", at(0, 1<<63), at(1<<63, 1<<63), false},
		{"two halves, and one more", at(0, 1<<63+1), at(1<<63, 1<<63), true},
	} {
		if span.Meet(c.a, c.b) != c.want || span.Meet(c.b, c.a) != c.want {
			t.Errorf("%s: not %v", c.name, c.want)
		}
	}
}

func TestP2_1MeetByEachNumber(t *testing.T) {
	for _, a := range short() {
		for _, b := range short() {
			if got := span.Meet(a, b); got != share(members(a), members(b)) {
				t.Errorf("Meet(%v, %v) = %v", a, b, got)
			}
		}
	}
}

func TestP2_1MeetAtEdges(t *testing.T) {
	for _, a := range edges() {
		for _, b := range edges() {
			if got := span.Meet(a, b); got != meetReference(a, b) {
				t.Errorf("Meet(%v, %v) = %v", a, b, got)
			}
		}
	}
}

func TestP2_1ClashCases(t *testing.T) {
	for _, c := range []struct {
		name string
		l    []span.Span
		i, k int
		ok   bool
	}{
		{"none", nil, 0, 0, false},
		{"none, empty", []span.Span{}, 0, 0, false},
		{"one", []span.Span{at(0, 5)}, 0, 0, false},
		{"one, of all numbers", []span.Span{at(0, top)}, 0, 0, false},
		{"one, without numbers", []span.Span{{}}, 0, 0, false},
		{"two that touch", []span.Span{at(0, 5), at(5, 5)}, 0, 0, false},
		{"two that touch, turned round", []span.Span{at(5, 5), at(0, 5)}, 0, 0, false},
		{"two that meet", []span.Span{at(0, 5), at(4, 5)}, 0, 1, true},
		{"two that meet, turned round", []span.Span{at(4, 5), at(0, 5)}, 0, 1, true},
		{"not neighbours", []span.Span{at(0, 5), at(20, 5), at(10, 5), at(3, 1)}, 0, 3, true},
		{"the last two", []span.Span{at(0, 5), at(10, 5), at(20, 5), at(24, 1)}, 2, 3, true},
		{"one that meets two: the first of them", []span.Span{at(20, 5), at(0, 5), at(10, 5), at(4, 7)}, 1, 3, true},
		{"one that meets two, the lower one behind", []span.Span{at(10, 5), at(0, 5), at(4, 7)}, 0, 2, true},
		{"two that meet one ahead: the first of them", []span.Span{at(0, 5), at(9, 3), at(11, 1), at(2, 1)}, 1, 2, true},
		{"the first stretch is met later than others meet", []span.Span{at(0, 9), at(20, 5), at(22, 5), at(1, 1)}, 1, 2, true},
		{"those without numbers meet none", []span.Span{at(0, 9), at(3, 0), at(3, 0), at(9, 0)}, 0, 0, false},
		{"those without numbers are counted", []span.Span{at(3, 0), at(0, 9), at(3, 0), at(8, 9)}, 1, 3, true},
		{"beyond 2^64 none wraps", []span.Span{at(0, 9), at(top-3, 100), at(9, 5)}, 0, 0, false},
		{"beyond 2^64", []span.Span{at(0, 9), at(top-3, 100), at(top, 0), at(top, 1)}, 1, 3, true},
	} {
		if i, k, ok := span.Clash(c.l); i != c.i || k != c.k || ok != c.ok {
			t.Errorf("%s: %d, %d, %v", c.name, i, k, ok)
		}
	}
}

func TestP2_1RisingCases(t *testing.T) {
	for _, c := range []struct {
		name string
		l    []span.Span
		want bool
	}{
		{"none", nil, true},
		{"none, empty", []span.Span{}, true},
		{"one", []span.Span{at(7, 5)}, true},
		{"one, without numbers", []span.Span{at(7, 0)}, true},
		{"one, beyond 2^64", []span.Span{at(top, top)}, true},
		{"the chapter's example", []span.Span{at(0, 5), at(5, 5)}, true},
		{"apart", []span.Span{at(0, 5), at(6, 5), at(100, 1)}, true},
		{"turned round", []span.Span{at(5, 5), at(0, 5)}, false},
		{"the last and the first in common", []span.Span{at(0, 5), at(4, 5)}, false},
		{"the same", []span.Span{at(3, 1), at(3, 1)}, false},
		{"only the first two aren't", []span.Span{at(3, 2), at(4, 2), at(9, 1), at(10, 1)}, false},
		{"only the last two aren't", []span.Span{at(0, 1), at(1, 1), at(9, 1), at(9, 1)}, false},
		{"one without numbers between, below the first", []span.Span{at(5, 5), at(0, 0), at(20, 5)}, false},
		{"without numbers, all at one place", []span.Span{at(5, 0), at(5, 0), at(5, 0)}, true},
		{"without numbers, then from there on", []span.Span{at(5, 0), at(5, 3)}, true},
		{"without numbers, then from further on", []span.Span{at(5, 0), at(6, 3)}, true},
		{"without numbers, then from below", []span.Span{at(5, 0), at(4, 3)}, false},
		{"without numbers, falling", []span.Span{at(5, 0), at(4, 0)}, false},
		{"without numbers, right behind", []span.Span{at(0, 5), at(5, 0)}, true},
		{"without numbers, at the last number", []span.Span{at(0, 5), at(4, 0)}, false},
		{"without numbers, at the first number", []span.Span{at(3, 5), at(3, 0)}, false},
		{"without numbers, inside, then further on", []span.Span{at(0, 5), at(2, 0), at(9, 1)}, false},
		{"at 0 without numbers, then from 0 on", []span.Span{at(0, 0), at(0, 0), at(0, 1), at(1, 0)}, true},
		{"all but the last number, and it", []span.Span{at(0, top), at(top, 1)}, true},
		{"all but the last number, then without numbers", []span.Span{at(0, top), at(top, 0)}, true},
		{"all but 0, then the last number", []span.Span{at(1, top), at(top, 1)}, false},
		{"to 2^64 itself, then without numbers", []span.Span{at(top-3, 4), at(top, 0)}, false},
		{"to 2^64 itself, then 0", []span.Span{at(top-3, 4), at(0, 0)}, false},
		{"beyond 2^64, then what a sum that wraps reaches", []span.Span{at(top-3, 10), at(6, 1)}, false},
		{"beyond 2^64, then without numbers", []span.Span{at(top, 9), at(top, 0)}, false},
		{"beyond 2^64 at the end", []span.Span{at(0, 5), at(top, 0), at(top, top)}, true},
	} {
		if got := span.Rising(c.l); got != c.want {
			t.Errorf("%s: %v", c.name, got)
		}
	}
}

func TestP2_1RisingByEachNumber(t *testing.T) {
	for _, a := range short() {
		for _, b := range short() {
			if got := span.Rising([]span.Span{a, b}); got != allBelow(a, b.From) {
				t.Errorf("Rising(%v, %v) = %v", a, b, got)
			}
		}
	}
}

func TestListsOfTwoAtEdges(t *testing.T) {
	for _, a := range edges() {
		for _, b := range edges() {
			checkList(t, []span.Span{a, b})
		}
	}
}

// TestListsOfUpToFour goes through all lists of a few stretches that meet, touch, have no numbers, and go beyond 2^64.
func TestListsOfUpToFour(t *testing.T) {
	kinds := []span.Span{
		at(0, 0), at(0, 2), at(1, 0), at(1, 2), at(2, 1), at(2, 0), at(3, 9), at(5, top), at(top-1, 1), at(top, 0), at(top, 1), at(top, 7),
	}
	lists := [][]span.Span{nil}
	for range 4 {
		var longer [][]span.Span
		for _, l := range lists {
			for _, s := range kinds {
				longer = append(longer, append(slices.Clone(l), s))
			}
		}
		for _, l := range longer {
			checkList(t, l)
		}
		lists = longer
	}
}

func TestLongLists(t *testing.T) {
	const n = 500
	var l []span.Span
	for i := range uint64(n) {
		l = append(l, at(3*i, i%4))
	}
	checkList(t, l)
	if !span.Rising(l) {
		t.Error("a long list that rises")
	}
	for _, k := range []int{n - 1, n / 2, 1} {
		l[k] = at(3*uint64(k)-2, 3)
		checkList(t, l)
	}
	slices.Reverse(l)
	checkList(t, l)
}

// checkList holds Clash and Rising against the references, P2.2, P2.3 and R3.
func checkList(t *testing.T, l []span.Span) {
	t.Helper()
	before := slices.Clone(l)
	i, k, ok := span.Clash(l)
	wantI, wantK, wantOk := clashReference(before)
	if i != wantI || k != wantK || ok != wantOk {
		t.Errorf("Clash(%v) = %d, %d, %v", before, i, k, ok)
	}
	if !ok && (i != 0 || k != 0) {
		t.Errorf("R3: Clash(%v) = %d, %d beside false", before, i, k)
	}
	rising := span.Rising(l)
	if rising != risingReference(before) {
		t.Errorf("Rising(%v) = %v", before, rising)
	}
	if rising && ok {
		t.Errorf("P2.3: %v rise, and %d and %d meet", before, i, k)
	}
	if !slices.Equal(l, before) {
		t.Errorf("P2.2: %v is changed to %v", before, l)
	}
}

// TestP2_2NothingIsChanged also holds what stands behind the list's end, within its capacity.
func TestP2_2NothingIsChanged(t *testing.T) {
	for _, whole := range [][]span.Span{
		{at(9, 3), at(0, 5), at(11, 1), at(2, 1), at(7, 7), at(1, 1)},
		{at(0, 5), at(5, 3), at(8, 0), at(8, 1), at(3, 3), at(0, 9)},
		{at(5, 0), at(4, 0), at(top, 9), at(3, 0), at(0, top), at(top, top)},
	} {
		before := slices.Clone(whole)
		for n := range len(whole) + 1 {
			span.Clash(whole[:n])
			span.Rising(whole[:n])
		}
		if !slices.Equal(whole, before) {
			t.Errorf("%v is changed to %v", before, whole)
		}
	}
}

func TestP2_2NothingIsKept(t *testing.T) {
	l := []span.Span{at(0, 5), at(4, 5)}
	if i, k, ok := span.Clash(l); i != 0 || k != 1 || !ok || span.Rising(l) {
		t.Error("two that meet:", i, k, ok)
	}
	l[1].From = 5
	if i, k, ok := span.Clash(l); i != 0 || k != 0 || ok || !span.Rising(l) {
		t.Error("the same list, once they only touch:", i, k, ok)
	}
	l[0], l[1] = l[1], l[0]
	if i, k, ok := span.Clash(l); i != 0 || k != 0 || ok || span.Rising(l) {
		t.Error("the same list, turned round:", i, k, ok)
	}
	l[0].From = 3
	if i, k, ok := span.Clash(l); i != 0 || k != 1 || !ok || span.Rising(l) {
		t.Error("the same list, once they meet again:", i, k, ok)
	}
}

func TestP2_3OfRisingOnesNoneMeet(t *testing.T) {
	risen := 0
	for _, a := range edges() {
		for _, b := range edges() {
			for _, c := range []span.Span{at(0, 0), at(2, 9), at(1<<63, 1), at(top, 0), at(top, 5)} {
				if !span.Rising([]span.Span{a, b, c}) {
					continue
				}
				risen++
				if span.Meet(a, b) || span.Meet(a, c) || span.Meet(b, c) {
					t.Errorf("%v, %v, %v rise, and some meet", a, b, c)
				}
			}
		}
	}
	if risen == 0 {
		t.Error("none rise")
	}
}

func FuzzP1NoCallPanics(f *testing.F) {
	f.Add(uint64(0), uint64(5), uint64(4), uint64(1), uint64(2), uint64(0))
	f.Add(uint64(top), uint64(top), uint64(top), uint64(0), uint64(0), uint64(top))
	f.Add(uint64(1), uint64(top), uint64(1<<63), uint64(1<<63), uint64(top-1), uint64(2))
	f.Fuzz(func(t *testing.T, a, an, b, bn, c, cn uint64) {
		l := []span.Span{at(a, an), at(b, bn), at(c, cn)}
		for _, x := range l {
			for _, y := range l {
				if span.Meet(x, y) != meetReference(x, y) {
					t.Errorf("Meet(%v, %v)", x, y)
				}
			}
		}
		for n := range 4 {
			checkList(t, l[:n])
		}
	})
}
