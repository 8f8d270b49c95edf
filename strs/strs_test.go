package strs_test

import (
	"bytes"
	"errors"
	"math"
	"slices"
	"strconv"
	"strings"
	"sync"
	"testing"

	"bezant/api"
	"bezant/strs"
)

const top uint64 = math.MaxUint64

// getReference goes byte by byte, and looks at none that isn't there.
func getReference(b []byte, off uint64) (string, bool) {
	var name []byte
	for i, v := range b {
		switch {
		case uint64(i) < off:
		case v == 0:
			return string(name), true
		default:
			name = append(name, v)
		}
	}
	return "", false
}

// buildReference finds what was there by going through all of it again.
func buildReference(l []string) (table []byte, at []uint64, ok bool) {
	table = []byte{0}
	for i, name := range l {
		if strings.Contains(name, "\x00") {
			return nil, nil, false
		}
		k := slices.Index(l, name)
		switch {
		case name == "":
			at = append(at, 0)
		case k < i:
			at = append(at, at[k])
		default:
			at = append(at, uint64(len(table)))
			table = append(table, name+"\x00"...)
		}
	}
	return table, at, true
}

// checkGet holds Get against the chapter's words, and R3.
func checkGet(t *testing.T, b []byte, off uint64) {
	t.Helper()
	want, there := getReference(b, off)
	if name, ok := strs.Get(b, off); name != want || ok != there {
		t.Errorf("Get(%q, %d) = %q, %v, not %q, %v", b, off, name, ok, want, there)
	}
}

// checkNone holds that there is no name, and R3.
func checkNone(t *testing.T, b []byte, off uint64) {
	t.Helper()
	if name, ok := strs.Get(b, off); name != "" || ok {
		t.Errorf("Get of %d bytes, %d = %q, %v", len(b), off, name, ok)
	}
}

// checkName holds the error, that it is the Code itself, and R3.
func checkName(t *testing.T, l []string) {
	t.Helper()
	if b, at, err := strs.Build(l); err != api.ErrName || len(b) != 0 || len(at) != 0 {
		t.Errorf("Build(%q) = %q, %v, %v, not ErrName", l, b, at, err)
	}
}

// checkBuild holds Build against the chapter's words, and P7.3.
func checkBuild(t *testing.T, l []string) {
	t.Helper()
	table, places, ok := buildReference(l)
	if !ok {
		checkName(t, l)
		return
	}
	b, at, err := strs.Build(l)
	if err != nil || !bytes.Equal(b, table) || !slices.Equal(at, places) {
		t.Errorf("Build(%q) = %q, %v, %v, not %q, %v", l, b, at, err, table, places)
		return
	}
	checkGot(t, l, b, at)
}

// checkGot holds P7.3 of a table that was built.
func checkGot(t *testing.T, l []string, b []byte, at []uint64) {
	t.Helper()
	for i, name := range l {
		if s, ok := strs.Get(b, at[i]); s != name || !ok {
			t.Errorf("P7.3: %q, built at %d, is got as %q, %v", name, at[i], s, ok)
		}
	}
}

// tables tells all that have up to five bytes of three kinds.
func tables() [][]byte {
	all := [][]byte{{}}
	for from := 0; len(all[from]) < 5; from++ {
		for _, v := range []byte{0, 'a', 0xff} {
			all = append(all, append(slices.Clone(all[from]), v))
		}
	}
	return all
}

// lists tells all of up to n texts of those.
func lists(texts []string, n int) [][]string {
	all := [][]string{{}}
	for from := 0; len(all[from]) < n; from++ {
		for _, s := range texts {
			all = append(all, append(slices.Clone(all[from]), s))
		}
	}
	return all
}

// farPlaces tells places whose lower bits alone would be inside, and those near 2^64.
func farPlaces() []uint64 {
	var all []uint64
	for near := range uint64(12) {
		all = append(all, top-near)
		for _, bit := range []int{8, 16, 31, 32, 62, 63} {
			all = append(all, 1<<bit+near, 1<<bit-near-1)
		}
	}
	return all
}

func TestP7_1GetCases(t *testing.T) {
	for _, c := range []struct {
		what string
		b    string
		off  uint64
		want string
		ok   bool
	}{
		{"the empty name at the beginning", "\x00ab\x00c\x00", 0, "", true},
		{"a name", "\x00ab\x00c\x00", 1, "ab", true},
		{"another name's end", "\x00ab\x00c\x00", 2, "b", true},
		{"the 0 behind a name", "\x00ab\x00c\x00", 3, "", true},
		{"the name at the last byte ahead of a 0", "\x00ab\x00c\x00", 4, "c", true},
		{"the last 0", "\x00ab\x00c\x00", 5, "", true},
		{"the bytes' end", "\x00ab\x00c\x00", 6, "", false},
		{"behind the bytes' end", "\x00ab\x00c\x00", 7, "", false},
		{"no 0 at the end, a name ahead of it", "\x00ab\x00cd", 1, "ab", true},
		{"no 0 from the place on", "\x00ab\x00cd", 4, "", false},
		{"no 0 from the last byte on", "\x00ab\x00cd", 5, "", false},
		{"no 0 at all", "abc", 0, "", false},
		{"one byte, no 0", "a", 0, "", false},
		{"one 0", "\x00", 0, "", true},
		{"the end of one 0", "\x00", 1, "", false},
		{"no 0 at the beginning", "ab\x00", 0, "ab", true},
		{"two 0s", "\x00\x00", 1, "", true},
		{"up to the first of several 0s", "a\x00b\x00c\x00", 0, "a", true},
		{"bytes that are no letters", "\x01\xff\x80\xc3\x28 \n\x00", 0, "\x01\xff\x80\xc3\x28 \n", true},
		{"the middle of a letter of two bytes", "\xc3\xa4\x00", 1, "\xa4", true},
		{"the digit 0 is no 0", "0\x00", 0, "0", true},
	} {
		if name, ok := strs.Get([]byte(c.b), c.off); name != c.want || ok != c.ok {
			t.Errorf("%s: %q, %v", c.what, name, ok)
		}
	}
}

func TestP7_1GetAtEachPlaceOfEachTable(t *testing.T) {
	for _, b := range tables() {
		for off := range uint64(len(b) + 4) {
			checkGet(t, b, off)
		}
		for _, off := range farPlaces() {
			checkNone(t, b, off)
		}
	}
}

func TestP7_1GetNoBytes(t *testing.T) {
	for _, b := range [][]byte{nil, {}} {
		for off := range uint64(5) {
			checkNone(t, b, off)
		}
		for _, off := range farPlaces() {
			checkNone(t, b, off)
		}
	}
}

func TestP7_1GetFarPlaces(t *testing.T) {
	long := bytes.Repeat([]byte("ab\x00"), 100000)
	for _, off := range farPlaces() {
		checkGet(t, long, off)
	}
	for _, off := range []uint64{0, 1, 65536, 65537, 299997, 299998, 299999, 300000, 300001} {
		checkGet(t, long, off)
	}
}

// TestP7_1GetOnlyZeroEnds holds that each other byte is a part of a name, wherever it stands in it.
func TestP7_1GetOnlyZeroEnds(t *testing.T) {
	for v := range 256 {
		b := []byte{'x', byte(v), 'y', byte(v), 0, 'z'}
		for off := range uint64(len(b) + 1) {
			checkGet(t, b, off)
		}
	}
}

func TestP7_1GetLengthNotCapacity(t *testing.T) {
	whole := []byte("ab\x00cd\x00")
	for n := range len(whole) {
		for off := range uint64(len(whole) + 2) {
			checkGet(t, whole[:n], off)
			checkGet(t, whole[n:], off)
		}
	}
	checkNone(t, whole[:2], 0)
	checkNone(t, whole[:0], 0)
	checkNone(t, whole[:3], 3)
}

func TestP7_1GetLongName(t *testing.T) {
	const n = 1 << 20
	b := append(bytes.Repeat([]byte{'n'}, n), 0)
	if name, ok := strs.Get(b, 0); name != strings.Repeat("n", n) || !ok {
		t.Error("of a long name are told", len(name), ok)
	}
	if name, ok := strs.Get(b, n-1); name != "n" || !ok {
		t.Error("a long name's last byte:", len(name), ok)
	}
	checkNone(t, b[:n], 0)
	checkNone(t, b[:n], n-1)
}

func TestP7_1BuildCases(t *testing.T) {
	for _, c := range []struct {
		what  string
		l     []string
		table string
		at    []uint64
	}{
		{"the chapter's example", []string{"a", "a"}, "\x00a\x00", []uint64{1, 1}},
		{"no names", nil, "\x00", nil},
		{"no names, empty", []string{}, "\x00", nil},
		{"an empty name", []string{""}, "\x00", []uint64{0}},
		{"empty names", []string{"", "", ""}, "\x00", []uint64{0, 0, 0}},
		{"one name", []string{"ab"}, "\x00ab\x00", []uint64{1}},
		{"the order is the list's", []string{"b", "a"}, "\x00b\x00a\x00", []uint64{1, 3}},
		{"an empty name first", []string{"", "ab"}, "\x00ab\x00", []uint64{0, 1}},
		{"an empty name last", []string{"ab", ""}, "\x00ab\x00", []uint64{1, 0}},
		{"an empty name between", []string{"x", "", "yz"}, "\x00x\x00yz\x00", []uint64{1, 0, 3}},
		{"names alike, apart", []string{"x", "yz", "x", "w", "yz"}, "\x00x\x00yz\x00w\x00", []uint64{1, 3, 1, 6, 3}},
		{"another one's end, behind it", []string{"abc", "bc", "c"}, "\x00abc\x00bc\x00c\x00", []uint64{1, 5, 8}},
		{"another one's end, ahead of it", []string{"c", "bc", "abc"}, "\x00c\x00bc\x00abc\x00", []uint64{1, 3, 6}},
		{"another one's beginning", []string{"abc", "ab", "a"}, "\x00abc\x00ab\x00a\x00", []uint64{1, 5, 8}},
		{"another one's middle", []string{"abc", "b"}, "\x00abc\x00b\x00", []uint64{1, 5}},
		{"two that are a third one together", []string{"ab", "a", "b"}, "\x00ab\x00a\x00b\x00", []uint64{1, 4, 6}},
		{"large and small letters", []string{"A", "a"}, "\x00A\x00a\x00", []uint64{1, 3}},
		{"spaces are kept", []string{"a ", "a", " a"}, "\x00a \x00a\x00 a\x00", []uint64{1, 4, 6}},
		{"bytes that are no letters", []string{"\xff", "\xfe", "\xff"}, "\x00\xff\x00\xfe\x00", []uint64{1, 3, 1}},
		{"letters that look alike", []string{"\xc3\xa4", "a\xcc\x88"}, "\x00\xc3\xa4\x00a\xcc\x88\x00", []uint64{1, 4}},
		{"the digit 0", []string{"0", "00"}, "\x000\x0000\x00", []uint64{1, 3}},
	} {
		b, at, err := strs.Build(c.l)
		if err != nil || string(b) != c.table || !slices.Equal(at, c.at) {
			t.Errorf("%s: %q, %v, %v", c.what, b, at, err)
			continue
		}
		checkGot(t, c.l, b, at)
	}
}

func TestP7_1BuildOfEachList(t *testing.T) {
	for _, l := range lists([]string{"", "a", "b", "ab", "ba", "\xff", "\x00"}, 4) {
		checkBuild(t, l)
	}
	for _, l := range lists([]string{"", "a", "aa"}, 7) {
		checkBuild(t, l)
	}
}

// TestP7_1BuildEachByte holds that 0 alone makes a text no name, wherever it stands in it.
func TestP7_1BuildEachByte(t *testing.T) {
	for v := range 256 {
		s := string([]byte{byte(v)})
		for _, name := range []string{s, "x" + s, s + "x", "x" + s + "y", s + s} {
			checkBuild(t, []string{name})
			checkBuild(t, []string{"first", name, "", name})
		}
	}
}

func TestP7_1BuildNoName(t *testing.T) {
	for _, wrong := range []string{"\x00", "\x00\x00", "\x00a", "a\x00", "a\x00b", strings.Repeat("n", 1000) + "\x00"} {
		for behind := range 4 {
			for ahead := range 4 {
				l := slices.Repeat([]string{"ab"}, ahead)
				l = append(l, wrong)
				l = append(l, slices.Repeat([]string{"c"}, behind)...)
				checkName(t, l)
			}
		}
		checkName(t, []string{"", wrong})
		checkName(t, []string{wrong, ""})
		// All but its 0s was there, or comes.
		checkName(t, []string{strings.Trim(wrong, "\x00"), wrong})
		checkName(t, []string{wrong, strings.Trim(wrong, "\x00")})
	}
}

// TestR1SeveralThatAreNoNames holds that there is one answer, whichever of them are wrong.
func TestR1SeveralThatAreNoNames(t *testing.T) {
	for set := range 16 {
		l := []string{"a", "b", "a", ""}
		for i := range l {
			if set>>i&1 == 1 {
				l[i] += "\x00"
			}
		}
		checkBuild(t, l)
	}
}

// TestP7_1BuildManyNames would not end in time if names were found by going through all of them.
func TestP7_1BuildManyNames(t *testing.T) {
	const n = 300000
	l := make([]string, 0, 2*n)
	for i := range n {
		l = append(l, "a name of several bytes "+strconv.Itoa(i))
	}
	l = append(l, l...)
	b, at, err := strs.Build(l)
	if err != nil || len(at) != len(l) || !slices.Equal(at[:n], at[n:]) {
		t.Fatal("of many names:", len(b), len(at), err)
	}
	place := uint64(1)
	for i, name := range l[:n] {
		if at[i] != place {
			t.Fatalf("%q stands at %d, not %d", name, at[i], place)
		}
		place += uint64(len(name)) + 1
	}
	if uint64(len(b)) != place || b[0] != 0 || string(b[1:]) != strings.Join(l[:n], "\x00")+"\x00" {
		t.Error("the table has", len(b), "bytes, not", place)
	}
	checkGot(t, l, b, at)
}

func TestErrorsAreCodes(t *testing.T) {
	_, _, err := strs.Build([]string{"\x00"})
	var code api.Code
	var spot *api.Spot
	if !errors.Is(err, api.ErrName) || !errors.As(err, &code) || code != api.ErrName || errors.As(err, &spot) {
		t.Errorf("%v, not ErrName itself", err)
	}
}

func TestP7_2BuildTellsNewMemory(t *testing.T) {
	for _, l := range [][]string{nil, {""}, {"ab", "", "c", "ab"}} {
		table, places, _ := buildReference(l)
		first, firstAt, _ := strs.Build(l)
		for range 3 {
			b, at, err := strs.Build(l)
			if err != nil || !bytes.Equal(b, table) || !slices.Equal(at, places) {
				t.Errorf("once the earlier ones are spoilt: %q, %v, %v", b, at, err)
			}
			b, at = b[:cap(b)], at[:cap(at)]
			for i := range b {
				b[i] = 0xee
			}
			for i := range at {
				at[i] = 77
			}
		}
		if !bytes.Equal(first, table) || !slices.Equal(firstAt, places) {
			t.Error("two answers share memory:", first, firstAt)
		}
	}
}

func TestP7_2GetTellsNewMemory(t *testing.T) {
	b := []byte("\x00ab\x00c\x00")
	name, ok := strs.Get(b, 1)
	last, lastOK := strs.Get(b, 4)
	for i := range b {
		b[i] = 'x'
	}
	if name != "ab" || !ok || last != "c" || !lastOK {
		t.Error("once the bytes are spoilt:", name, ok, last, lastOK)
	}
	checkNone(t, b, 1)
}

func TestR2GetChangesNothing(t *testing.T) {
	for _, whole := range []string{"\x00ab\x00c\x00", "abc", "\x00", "ab\x00cd"} {
		b := []byte(whole)
		for n := range len(b) + 1 {
			for off := range uint64(len(b) + 3) {
				strs.Get(b[:n], off)
			}
		}
		if string(b) != whole {
			t.Errorf("%q is changed to %q", whole, b)
		}
	}
}

// TestR2BuildChangesNothing holds it of what stands behind the list in its memory, too, and where there is an error.
func TestR2BuildChangesNothing(t *testing.T) {
	whole := []string{"b", "", "a", "b", "ab", "c\x00", "b", "d"}
	l := slices.Clone(whole)
	for from := range l {
		for to := from; to <= len(l); to++ {
			strs.Build(l[from:to])
			checkBuild(t, l[from:to])
		}
	}
	if !slices.Equal(l, whole) {
		t.Errorf("%q is changed to %q", whole, l)
	}
}

// TestR2BuildKeepsNothing holds that no name, no place and no error of one call is seen in another one.
func TestR2BuildKeepsNothing(t *testing.T) {
	l := []string{"a", "b"}
	b, at, err := strs.Build(l)
	l[0], l[1] = "spoilt", "spoilt"
	if err != nil || string(b) != "\x00a\x00b\x00" || !slices.Equal(at, []uint64{1, 3}) {
		t.Error("once the list is spoilt:", b, at, err)
	}
	for _, l := range [][]string{{"b"}, {"c\x00"}, {"c"}, nil, {"b", "a"}, {"b\x00", "a"}, {"a"}, {"", "b"}} {
		checkBuild(t, l)
	}
}

func TestR2CallsAtOneTime(t *testing.T) {
	var all sync.WaitGroup
	for i := range 8 {
		all.Go(func() {
			for k := range 200 {
				own := strconv.Itoa(i*1000 + k)
				checkBuild(t, []string{own, "shared", own, "", own + "x"})
				checkBuild(t, []string{"shared", own + "\x00"})
			}
		})
	}
	all.Wait()
}

// TestP7_3 holds it of many lists, of names of many lengths and bytes, some of them alike.
func TestP7_3(t *testing.T) {
	v := uint32(7)
	next := func(n uint32) uint32 {
		v = v*1664525 + 1013904223
		return (v >> 8) % n
	}
	for range 300 {
		l := make([]string, next(40))
		for i := range l {
			if i > 0 && next(3) == 0 {
				l[i] = l[next(uint32(i))]
				continue
			}
			name := make([]byte, next(9))
			for k := range name {
				name[k] = byte(1 + next(255))
			}
			l[i] = string(name)
		}
		checkBuild(t, l)
	}
}

func FuzzP1GetNeverPanics(f *testing.F) {
	for _, b := range []string{"", "\x00", "a", "\x00ab\x00c", "\x00ab\x00c\x00"} {
		for _, off := range []uint64{0, 1, 2, 6, 1 << 32, 1 << 63, top} {
			f.Add([]byte(b), off)
		}
	}
	f.Fuzz(func(t *testing.T, b []byte, off uint64) {
		before := bytes.Clone(b)
		checkGet(t, b, off)
		if !bytes.Equal(b, before) {
			t.Error("R2: what was handed in is changed")
		}
	})
}

// FuzzP1BuildNeverPanics makes a list of the pieces between the commas: those can't have one, but any other byte.
func FuzzP1BuildNeverPanics(f *testing.F) {
	for _, s := range []string{"", ",", "a,a", "a,,b", "abc,bc,c", "a\x00", "a,\x00", "\xff,\xc3\xa4,\xa4"} {
		f.Add(s)
	}
	f.Fuzz(func(t *testing.T, s string) {
		l := strings.Split(s, ",")
		before := slices.Clone(l)
		checkBuild(t, l)
		if !slices.Equal(l, before) {
			t.Error("R2: what was handed in is changed")
		}
	})
}
