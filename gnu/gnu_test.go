package gnu_test

import (
	"bytes"
	"encoding/binary"
	"fmt"
	"math"
	"math/big"
	"slices"
	"strconv"
	"strings"
	"testing"

	"bezant/api"
	"bezant/gnu"
)

const most uint32 = math.MaxUint32

// hold is what spoils memory, and what lies around bytes.
const hold = 0xee

// numbers is how many bytes a table has ahead of its words.
const numbers = 16

var forms = []api.Form{{}, {Big: true}, {Wide: true}, {Wide: true, Big: true}}

// hashOf tells a name's hash without ever going beyond a number's end, by one remainder behind all bytes.
func hashOf(s string) uint32 {
	h, times := big.NewInt(5381), big.NewInt(33)
	for _, v := range []byte(s) {
		h.Mul(h, times)
		h.Add(h, big.NewInt(int64(v)))
	}
	return uint32(h.Mod(h, big.NewInt(1<<32)).Uint64())
}

// bytesOf tells the bytes of numbers of four bytes by the library.
func bytesOf(f api.Form, l ...uint32) []byte {
	var b []byte
	for _, v := range l {
		if f.Big {
			b = binary.BigEndian.AppendUint32(b, v)
		} else {
			b = binary.LittleEndian.AppendUint32(b, v)
		}
	}
	return b
}

// numberAt tells the number of four bytes at a place by the library.
func numberAt(b []byte, at int, f api.Form) uint32 {
	if f.Big {
		return binary.BigEndian.Uint32(b[at:])
	}
	return binary.LittleEndian.Uint32(b[at:])
}

// with tells bytes of their own, with another number of four bytes at a place.
func with(b []byte, at int, f api.Form, v uint32) []byte {
	b = bytes.Clone(b)
	copy(b[at:], bytesOf(f, v))
	return b
}

// bitsIn tells how many bits a word has.
func bitsIn(f api.Form) int {
	if f.Wide {
		return 64
	}
	return 32
}

// bitAt tells of a bit of a table's words the byte in which it stands, and that byte's number with just this bit.
func bitAt(word, bit int, f api.Form) (int, byte) {
	size := bitsIn(f) / 8
	in := bit / 8
	if f.Big {
		in = size - 1 - in
	}
	return numbers + word*size + in, 1 << (bit % 8)
}

// bitsOf tells the word in which a hash has its two bits, and them.
func bitsOf(h uint32, words, shift int, f api.Form) (word int, bits [2]int) {
	w := bitsIn(f)
	moved := new(big.Int).Rsh(big.NewInt(int64(h)), uint(shift)).Int64()
	return int(h) / w % words, [2]int{int(h) % w, int(moved) % w}
}

// bucketsAt tells where a table's buckets begin.
func bucketsAt(t gnu.Table, f api.Form) int { return numbers + t.Words*bitsIn(f)/8 }

// hashesAt tells where a table's hashes begin.
func hashesAt(t gnu.Table, f api.Form) int { return bucketsAt(t, f) + 4*t.Buckets }

// bucketOf tells a name's bucket.
func bucketOf(s string, buckets int) int { return int(int64(hashOf(s)) % int64(buckets)) }

// reference tells a table's bytes, of names that may be so.
func reference(t gnu.Table, l []string, f api.Form) []byte {
	b := bytesOf(f, uint32(t.Buckets), uint32(t.First), uint32(t.Words), uint32(t.Shift))
	b = append(b, make([]byte, t.Words*bitsIn(f)/8)...)
	firsts := make([]uint32, t.Buckets)
	hashes := make([]uint32, len(l))
	for i := len(l) - 1; i >= 0; i-- {
		h := hashOf(l[i])
		word, bits := bitsOf(h, t.Words, t.Shift, f)
		for _, bit := range bits {
			at, v := bitAt(word, bit, f)
			b[at] |= v
		}
		k := bucketOf(l[i], t.Buckets)
		hashes[i] = h - h%2
		if firsts[k] == 0 {
			hashes[i]++
		}
		firsts[k] = uint32(t.First + i)
	}
	return append(append(b, bytesOf(f, firsts...)...), bytesOf(f, hashes...)...)
}

// found tells where a name is found by a table's bytes.
func found(b []byte, all []string, f api.Form, s string) (int, bool) {
	if len(b) < numbers {
		return 0, false
	}
	buckets, first := int64(numberAt(b, 0, f)), int64(numberAt(b, 4, f))
	words, shift := int64(numberAt(b, 8, f)), numberAt(b, 12, f)
	behind := numbers + words*int64(bitsIn(f)/8)
	hashes := behind + 4*buckets
	if buckets == 0 || words == 0 || hashes > int64(len(b)) {
		return 0, false
	}
	h := hashOf(s)
	// A shift by 32 leaves nothing already, so that a greater one need not be made.
	word, bits := bitsOf(h, int(words), int(min(shift, 32)), f)
	for _, bit := range bits {
		if at, v := bitAt(word, bit, f); b[at]&v == 0 {
			return 0, false
		}
	}
	from := int64(numberAt(b, int(behind+4*(int64(h)%buckets)), f))
	if from == 0 || from < first {
		return 0, false
	}
	for i := from; ; i++ {
		at := hashes + 4*(i-first)
		if at+4 > int64(len(b)) || i >= int64(len(all)) {
			return 0, false
		}
		v := numberAt(b, int(at), f)
		if v/2 == h/2 && all[i] == s {
			return int(i), true
		}
		if v%2 == 1 {
			return 0, false
		}
	}
}

// ordered tells the places of names by rising buckets, going through all names bucket by bucket.
func ordered(l []string, buckets int) []int {
	if buckets < 1 {
		return nil
	}
	in := map[int][]int{}
	var kinds []int
	for i, s := range l {
		k := bucketOf(s, buckets)
		if in[k] == nil {
			kinds = append(kinds, k)
		}
		in[k] = append(in[k], i)
	}
	slices.Sort(kinds)
	var all []int
	for _, k := range kinds {
		all = append(all, in[k]...)
	}
	return all
}

// sorted tells the same names, as they may be so.
func sorted(l []string, buckets int) []string {
	var all []string
	for _, i := range ordered(l, buckets) {
		all = append(all, l[i])
	}
	return all
}

// several tells names that are all other ones, of many lengths, with bytes of 128 and more, and one without any.
func several(n int) []string {
	l := make([]string, n)
	for i := range l {
		l[i] = strings.Repeat("\xff\x80z", i%5) + strconv.Itoa(i*7919)
	}
	if n > 3 {
		l[3] = ""
	}
	return l
}

// ahead tells names that stand ahead of a table's.
func ahead(n int) []string {
	l := make([]string, n)
	for i := range l {
		l[i] = "ahead" + strconv.Itoa(i)
	}
	return l
}

// kinds tells tables of many kinds, the least and the greatest ones, too.
func kinds() []gnu.Table {
	return []gnu.Table{
		{First: 1, Buckets: 1, Words: 1, Shift: 0},
		{First: 1, Buckets: 1, Words: 1, Shift: 31},
		{First: 1, Buckets: 2, Words: 1, Shift: 5},
		{First: 2, Buckets: 3, Words: 2, Shift: 6},
		{First: 7, Buckets: 17, Words: 3, Shift: 9},
		{First: 300, Buckets: 64, Words: 8, Shift: 1},
		{First: 65536, Buckets: 1, Words: 1, Shift: 0},
		{First: 1, Buckets: 1024, Words: 1, Shift: 14},
		{First: 1, Buckets: 1, Words: 1024, Shift: 26},
		{First: 65536, Buckets: 1024, Words: 1024, Shift: 31},
	}
}

// short tells a text of no great length, since bytes may be very many.
func short(v any) string {
	s := fmt.Sprint(v)
	if len(s) > 400 {
		return s[:400] + "..."
	}
	return s
}

// checkHash holds Hash against the reference.
func checkHash(t *testing.T, s string) {
	t.Helper()
	if h := gnu.Hash(s); h != hashOf(s) {
		t.Errorf("Hash(%.40q), of %d bytes, = %d, not %d", s, len(s), h, hashOf(s))
	}
}

// checkOrder holds Order against the reference.
func checkOrder(t *testing.T, l []string, buckets int) {
	t.Helper()
	if at := gnu.Order(l, buckets); !slices.Equal(at, ordered(l, buckets)) {
		t.Errorf("Order(%s, %d) = %s, not %s", short(l), buckets, short(at), short(ordered(l, buckets)))
	}
}

// checkBuild holds Build against the reference, of names that may be so, and tells the bytes.
func checkBuild(t *testing.T, x gnu.Table, l []string, f api.Form) []byte {
	t.Helper()
	want := reference(x, l, f)
	b, err := gnu.Build(x, l, f)
	if err != nil || !bytes.Equal(b, want) {
		t.Fatalf("Build(%v, %s, %v) = %s, %v, not %s", x, short(l), f, short(b), err, short(want))
	}
	return b
}

// checkWrong holds the error, that it is the Code itself, and R3.
func checkWrong(t *testing.T, x gnu.Table, l []string, f api.Form, code api.Code) {
	t.Helper()
	b, err := gnu.Build(x, l, f)
	if c, ok := err.(api.Code); !ok || c != code || len(b) != 0 {
		t.Errorf("Build(%v, %s, %v) = %s, %v, not %v", x, short(l), f, short(b), err, code)
	}
}

// checkPlace holds Lookup against a place told by hand, -1 if the name isn't found, and against the reference.
func checkPlace(t *testing.T, b []byte, all []string, f api.Form, s string, want int) {
	t.Helper()
	i, ok := gnu.Lookup(b, all, f, s)
	if ok != (want >= 0) || i != max(want, 0) {
		t.Errorf("Lookup(%s, %s, %v, %.40q) = %d, %v, not %d", short(b), short(all), f, s, i, ok, want)
	}
	checkLookup(t, b, all, f, s)
}

// checkLookup holds Lookup against the reference.
func checkLookup(t *testing.T, b []byte, all []string, f api.Form, s string) {
	t.Helper()
	i, ok := gnu.Lookup(b, all, f, s)
	if k, there := found(b, all, f, s); i != k || ok != there {
		t.Errorf("Lookup(%s, %s, %v, %.40q) = %d, %v, not %d, %v", short(b), short(all), f, s, i, ok, k, there)
	}
}

// checkEach holds P12.4: each name of a table is found where it first stands, and no other one.
func checkEach(t *testing.T, x gnu.Table, l []string, f api.Form, others ...string) {
	t.Helper()
	b := checkBuild(t, x, l, f)
	front := ahead(x.First)
	all := append(slices.Clone(front), l...)
	for _, s := range l {
		checkPlace(t, b, all, f, s, x.First+slices.Index(l, s))
	}
	for _, s := range append(others, front[0], front[len(front)-1]) {
		if !slices.Contains(l, s) {
			checkPlace(t, b, all, f, s, -1)
		}
	}
}

// TestHands holds what the other tests take for granted of some names: their hashes by hand.
func TestHands(t *testing.T) {
	for s, want := range map[string]uint32{"a": 177670, "b": 177671, "c": 177672, "aB": 5863176, "b!": 5863176, "aC": 5863177} {
		if h := gnu.Hash(s); h != want {
			t.Errorf("Hash(%q) = %d", s, h)
		}
	}
}

func TestP12_1HashByHand(t *testing.T) {
	for s, want := range map[string]uint32{
		"":         5381,
		"\x00":     5381 * 33,
		"a":        5381*33 + 97,
		"ab":       (5381*33+97)*33 + 98,
		"ba":       (5381*33+98)*33 + 97,
		"\x7f":     5381*33 + 127,
		"\x80":     5381*33 + 128,
		"\xff":     5381*33 + 255,
		"\xff\x80": (5381*33+255)*33 + 128,
		"\u00e4":   (5381*33+0xc3)*33 + 0xa4,
		"printf":   0x156b2bb8,
		"exit":     0x7c967e3f,
		"syscall":  0xbac212a0,
	} {
		if h := gnu.Hash(s); h != want {
			t.Errorf("Hash(%q) = %#x, not %#x", s, h, want)
		}
	}
}

func TestP12_1HashEachByte(t *testing.T) {
	for v := range 256 {
		if h := gnu.Hash(string([]byte{byte(v)})); h != 177573+uint32(v) {
			t.Errorf("Hash of the byte %d = %d", v, h)
		}
		for n := range 12 {
			s := strings.Repeat("q", n)
			checkHash(t, s+string([]byte{byte(v)})+s)
			checkHash(t, strings.Repeat(string([]byte{byte(v)}), n))
		}
	}
}

// TestP12_1HashLong goes beyond 2^32, and, of eight bytes and more, beyond 2^64.
func TestP12_1HashLong(t *testing.T) {
	// Three bytes don't go beyond, but any four do.
	for s, want := range map[string]uint32{
		"\x00\x00\x00":     193376997,
		"\xff\xff\xff":     193663362,
		"\x00\x00\x00\x00": 6381440901 - 1<<32,
		"\xff\xff\xff\xff": 6390891201 - 1<<32,
	} {
		if h := gnu.Hash(s); h != want {
			t.Errorf("Hash(%q) = %d, not %d", s, h, want)
		}
	}
	for n := range 300 {
		for _, piece := range []string{"\x00", "a", "\x80", "\xff", "xyz\xfe"} {
			checkHash(t, strings.Repeat(piece, n))
		}
	}
	for _, n := range []int{1000, 4096, 20000} {
		checkHash(t, strings.Repeat("\xff", n))
		checkHash(t, strings.Repeat("a", n)+"b")
	}
	for _, s := range several(1000) {
		checkHash(t, s)
	}
}

func TestP12_1OrderByHand(t *testing.T) {
	// Hashes: a 177670, b 177671, c 177672; modulo 2: 0, 1, 0; modulo 3: 1, 2, 0.
	for _, x := range []struct {
		l       []string
		buckets int
		want    []int
	}{
		{nil, 1, nil},
		{nil, 0, nil},
		{[]string{"a"}, 1, []int{0}},
		{[]string{"b", "a", "c"}, 1, []int{0, 1, 2}},
		{[]string{"b", "a", "c"}, 2, []int{1, 2, 0}},
		{[]string{"c", "b", "a"}, 2, []int{0, 2, 1}},
		{[]string{"b", "a", "c"}, 3, []int{2, 1, 0}},
		{[]string{"a", "b", "c"}, 3, []int{2, 0, 1}},
		{[]string{"b", "b", "a", "b", "a"}, 2, []int{2, 4, 0, 1, 3}},
		{[]string{"aB", "b!", "aB"}, 1024, []int{0, 1, 2}},
		{[]string{"aC", "b!", "aB"}, 1 << 32, []int{1, 2, 0}},
		{[]string{"a", "", "b"}, math.MaxInt, []int{1, 0, 2}},
		{[]string{"b", "a"}, 0, nil},
		{[]string{"b", "a"}, -1, nil},
		{[]string{"b", "a"}, math.MinInt, nil},
	} {
		if at := gnu.Order(x.l, x.buckets); !slices.Equal(at, x.want) {
			t.Errorf("Order(%q, %d) = %v", x.l, x.buckets, at)
		}
	}
}

func TestP12_1OrderNone(t *testing.T) {
	for _, l := range [][]string{nil, {}, several(4)[2:2]} {
		for _, buckets := range []int{math.MinInt, -1, 0, 1, 2, 1024, math.MaxInt} {
			if at := gnu.Order(l, buckets); len(at) != 0 {
				t.Errorf("Order of none, %d = %v", buckets, at)
			}
		}
	}
}

// TestP12_1OrderBelowOne has no order, and tells nothing beside it.
func TestP12_1OrderBelowOne(t *testing.T) {
	for _, n := range []int{1, 2, 50} {
		for _, buckets := range []int{0, -1, -2, -1024, math.MinInt32, math.MinInt + 1, math.MinInt} {
			if at := gnu.Order(several(n), buckets); len(at) != 0 {
				t.Errorf("Order of %d names, %d = %v", n, buckets, at)
			}
		}
	}
}

func TestP12_1OrderOfMany(t *testing.T) {
	for _, buckets := range []int{1, 2, 3, 16, 17, 1023, 1024, 1025, 65536, 1<<31 - 1, 1 << 31, 1<<32 - 1, 1 << 32, 1<<32 + 1, 1 << 62, math.MaxInt} {
		for _, n := range []int{1, 2, 3, 12, 13, 40, 1000, 5000} {
			l := several(n)
			checkOrder(t, l, buckets)
			checkOrder(t, append(l, l...), buckets)
			checkOrder(t, slices.Repeat([]string{"one"}, n), buckets)
		}
	}
}

// TestP12_1OrderOfEach takes all lists of up to five of some names, alike ones and ones of one bucket among them.
func TestP12_1OrderOfEach(t *testing.T) {
	pieces := []string{"", "a", "b", "c", "aB", "b!"}
	lists := [][]string{{}}
	for i := 0; i < len(lists); i++ {
		for _, buckets := range []int{-1, 0, 1, 2, 3, 4, 1024} {
			checkOrder(t, lists[i], buckets)
		}
		for _, s := range pieces {
			if len(lists[i]) < 5 {
				lists = append(lists, append(slices.Clone(lists[i]), s))
			}
		}
	}
}

// byHand holds the bytes themselves, so that the reference isn't all that holds them.
// Hashes: a 0x2b606, c 0x2b608, both of bucket 0; b 0x2b607, of bucket 1. Bits of 32: 6, 8, 7, and 16 of each; of 64: 6, 8, 7, and 48.
var byHand = map[api.Form][]byte{
	{}: {
		2, 0, 0, 0, 1, 0, 0, 0, 1, 0, 0, 0, 5, 0, 0, 0,
		0xc0, 0x01, 0x01, 0x00,
		1, 0, 0, 0, 3, 0, 0, 0,
		0x06, 0xb6, 0x02, 0, 0x09, 0xb6, 0x02, 0, 0x06, 0xb6, 0x02, 0, 0x07, 0xb6, 0x02, 0,
	},
	{Big: true}: {
		0, 0, 0, 2, 0, 0, 0, 1, 0, 0, 0, 1, 0, 0, 0, 5,
		0x00, 0x01, 0x01, 0xc0,
		0, 0, 0, 1, 0, 0, 0, 3,
		0, 0x02, 0xb6, 0x06, 0, 0x02, 0xb6, 0x09, 0, 0x02, 0xb6, 0x06, 0, 0x02, 0xb6, 0x07,
	},
	{Wide: true}: {
		2, 0, 0, 0, 1, 0, 0, 0, 1, 0, 0, 0, 5, 0, 0, 0,
		0xc0, 0x01, 0, 0, 0, 0, 0x01, 0,
		1, 0, 0, 0, 3, 0, 0, 0,
		0x06, 0xb6, 0x02, 0, 0x09, 0xb6, 0x02, 0, 0x06, 0xb6, 0x02, 0, 0x07, 0xb6, 0x02, 0,
	},
	{Wide: true, Big: true}: {
		0, 0, 0, 2, 0, 0, 0, 1, 0, 0, 0, 1, 0, 0, 0, 5,
		0, 0x01, 0, 0, 0, 0, 0x01, 0xc0,
		0, 0, 0, 1, 0, 0, 0, 3,
		0, 0x02, 0xb6, 0x06, 0, 0x02, 0xb6, 0x09, 0, 0x02, 0xb6, 0x06, 0, 0x02, 0xb6, 0x07,
	},
}

func TestP12_1BuildByHand(t *testing.T) {
	x := gnu.Table{First: 1, Buckets: 2, Words: 1, Shift: 5}
	l := []string{"a", "c", "b", "b"}
	for _, f := range forms {
		b, err := gnu.Build(x, l, f)
		if err != nil || !bytes.Equal(b, byHand[f]) {
			t.Errorf("Build of %v = %v, %v", f, b, err)
		}
		all := append([]string{""}, l...)
		for s, want := range map[string]int{"a": 1, "c": 2, "b": 3, "": -1, "d": -1, "ab": -1} {
			checkPlace(t, byHand[f], all, f, s, want)
		}
	}
}

// TestP12_1BuildNone holds a table without names: no bit is 1, no bucket has a place.
func TestP12_1BuildNone(t *testing.T) {
	for _, f := range forms {
		for _, x := range kinds() {
			for _, l := range [][]string{nil, {}, several(4)[1:1]} {
				b, err := gnu.Build(x, l, f)
				want := bytesOf(f, uint32(x.Buckets), uint32(x.First), uint32(x.Words), uint32(x.Shift))
				want = append(want, make([]byte, x.Words*bitsIn(f)/8+4*x.Buckets)...)
				if err != nil || !bytes.Equal(b, want) {
					t.Errorf("Build of none, %v, %v = %s, %v", x, f, short(b), err)
				}
				for _, s := range []string{"", "a", "ahead0"} {
					checkPlace(t, b, ahead(x.First+3), f, s, -1)
				}
			}
		}
	}
}

func TestP12_1BuildOfMany(t *testing.T) {
	for _, f := range forms {
		for _, x := range kinds() {
			for _, n := range []int{1, 2, 3, 4, 33, 700} {
				l := several(n)
				b := checkBuild(t, x, sorted(l, x.Buckets), f)
				if len(b) != numbers+x.Words*bitsIn(f)/8+4*x.Buckets+4*n {
					t.Errorf("Build of %d names, %v, %v, has %d bytes", n, x, f, len(b))
				}
				checkBuild(t, x, sorted(append(l, l...), x.Buckets), f)
				checkBuild(t, x, slices.Repeat(l[:1], n), f)
			}
		}
	}
}

// TestP12_1BuildByOrder holds that what Order tells may be so.
func TestP12_1BuildByOrder(t *testing.T) {
	for _, f := range forms {
		for _, x := range kinds() {
			names := append(several(200), several(50)...)
			var l []string
			for _, i := range gnu.Order(names, x.Buckets) {
				l = append(l, names[i])
			}
			checkBuild(t, x, l, f)
		}
	}
}

// TestP12_1BuildEachBit takes names whose hashes have, in each class and by each Shift, every bit of every word.
func TestP12_1BuildEachBit(t *testing.T) {
	for _, f := range forms {
		for shift := range 32 {
			for _, words := range []int{1, 2, 3, 5, 1023, 1024} {
				x := gnu.Table{First: 1, Buckets: 1, Words: words, Shift: shift}
				for _, s := range []string{"", "a", "b", "printf", "syscall", "\xff\xfe\xfd\xfc\xfb\xfa"} {
					checkBuild(t, x, []string{s}, f)
				}
				checkBuild(t, x, several(40), f)
			}
		}
	}
}

// TestP12_1BuildOneBit takes names both of whose bits are one and the same, and some both of whose bits aren't.
func TestP12_1BuildOneBit(t *testing.T) {
	for _, f := range forms {
		for _, s := range append(several(30), "a", "b", "printf") {
			b := checkBuild(t, gnu.Table{First: 1, Buckets: 1, Words: 1, Shift: 0}, []string{s}, f)
			ones := 0
			for bit := range bitsIn(f) {
				at, v := bitAt(0, bit, f)
				if b[at]&v != 0 {
					ones++
				}
			}
			if at, v := bitAt(0, int(hashOf(s))%bitsIn(f), f); ones != 1 || b[at] != v {
				t.Errorf("%q, %v: %v", s, f, b)
			}
			checkPlace(t, b, []string{"", s}, f, s, 1)
		}
		// The hash of "" is 5381, 84 times 64 and 5; its eighth is 672, 10 times 64 and 32.
		b := checkBuild(t, gnu.Table{First: 1, Buckets: 1, Words: 1, Shift: 3}, []string{""}, f)
		want := map[api.Form][]byte{
			{}: {0x21, 0, 0, 0}, {Big: true}: {0, 0, 0, 0x21},
			{Wide: true}: {0x20, 0, 0, 0, 1, 0, 0, 0}, {Wide: true, Big: true}: {0, 0, 0, 1, 0, 0, 0, 0x20},
		}[f]
		if !bytes.Equal(b[numbers:numbers+len(want)], want) {
			t.Errorf("%v: %v", f, b)
		}
	}
}

// TestP12_1BuildWordOf holds that both bits stand in the word that the hash itself tells, not in the one of its second bit.
func TestP12_1BuildWordOf(t *testing.T) {
	for _, f := range forms {
		for _, words := range []int{2, 7, 1024} {
			for _, s := range several(60) {
				x := gnu.Table{First: 1, Buckets: 1, Words: words, Shift: 11}
				b := checkBuild(t, x, []string{s}, f)
				size := bitsIn(f) / 8
				word := int(hashOf(s)) / bitsIn(f) % words
				for i, v := range b[numbers:bucketsAt(x, f)] {
					if v != 0 && i/size != word {
						t.Errorf("%q, %v: a bit in word %d, not %d", s, f, i/size, word)
					}
				}
			}
		}
	}
}

// TestP12_1BuildBuckets takes names of some buckets alone: the first, the last, or some between are without one.
func TestP12_1BuildBuckets(t *testing.T) {
	all := map[int][]string{}
	for _, s := range several(400) {
		all[bucketOf(s, 6)] = append(all[bucketOf(s, 6)], s)
	}
	for _, f := range forms {
		for choice := range 1 << 6 {
			x := gnu.Table{First: 9, Buckets: 6, Words: 2, Shift: 4}
			var l []string
			places := make([]uint32, 6)
			for k := range 6 {
				if choice>>k&1 == 1 {
					places[k] = uint32(9 + len(l))
					l = append(l, all[k][:1+k%3]...)
				}
			}
			b := checkBuild(t, x, l, f)
			if at := bucketsAt(x, f); !bytes.Equal(b[at:at+24], bytesOf(f, places...)) {
				t.Errorf("%v, %q: %v, not %v", f, l, b[at:at+24], places)
			}
			checkEach(t, x, l, f, several(400)...)
		}
	}
}

// TestP12_1BuildLowestBit holds that just the last name of each bucket has the lowest bit, whether its hash had it or not.
func TestP12_1BuildLowestBit(t *testing.T) {
	for _, f := range forms {
		for _, buckets := range []int{1, 2, 3, 10, 1024} {
			x := gnu.Table{First: 1, Buckets: buckets, Words: 1, Shift: 1}
			l := sorted(append(several(100), "a", "b", "a", "b", "b", "a"), buckets)
			b := checkBuild(t, x, l, f)
			for i, s := range l {
				v := numberAt(b, hashesAt(x, f)+4*i, f)
				isLast := i == len(l)-1 || bucketOf(s, buckets) != bucketOf(l[i+1], buckets)
				if v>>1 != hashOf(s)>>1 || v&1 == 1 != isLast {
					t.Errorf("name %d of %d buckets, %v: %#x of %#x, last: %v", i, buckets, f, v, hashOf(s), isLast)
				}
			}
		}
	}
}

// bounds tells each number's least and greatest one, and how a table gets another one.
var bounds = []struct {
	least, most int
	set         func(x *gnu.Table, v int)
}{
	{1, 65536, func(x *gnu.Table, v int) { x.First = v }},
	{1, 1024, func(x *gnu.Table, v int) { x.Buckets = v }},
	{1, 1024, func(x *gnu.Table, v int) { x.Words = v }},
	{0, 31, func(x *gnu.Table, v int) { x.Shift = v }},
}

// beyond tells numbers that may not be.
func beyond(least, most int) []int {
	return []int{least - 1, least - 2, most + 1, most + 2, -most, 1 << 20, 1 << 32, 1<<32 + 1, 1<<32 + least, -1 << 32, math.MaxInt, math.MinInt}
}

func TestP12_1BuildBounds(t *testing.T) {
	for _, f := range forms {
		for _, x := range kinds() {
			l := sorted(several(20), x.Buckets)
			for i, bound := range bounds {
				for _, v := range beyond(bound.least, bound.most) {
					bad := x
					bound.set(&bad, v)
					checkWrong(t, bad, l, f, api.ErrArg)
					checkWrong(t, bad, nil, f, api.ErrArg)
				}
				for _, v := range []int{bound.least, bound.least + 1, bound.most - 1, bound.most} {
					good := x
					bound.set(&good, v)
					b := checkBuild(t, good, sorted(several(20), good.Buckets), f)
					at := []int{4, 0, 8, 12}[i]
					if !bytes.Equal(b[at:at+4], bytesOf(f, uint32(v))) {
						t.Errorf("number %d of %v, %v: %v", i, good, f, b[:numbers])
					}
				}
			}
		}
	}
}

// TestP12_1BuildWrongAtOnce takes each choice of numbers that are right, too small, or too great.
func TestP12_1BuildWrongAtOnce(t *testing.T) {
	for _, f := range forms {
		for choice := range 81 {
			x := gnu.Table{First: 3, Buckets: 2, Words: 2, Shift: 2}
			rest := choice
			for _, bound := range bounds {
				if rest%3 == 1 {
					bound.set(&x, bound.least-1)
				} else if rest%3 == 2 {
					bound.set(&x, bound.most+1)
				}
				rest /= 3
			}
			for _, l := range [][]string{nil, {"a", "b"}, {"b", "a"}, {"a"}} {
				if choice != 0 {
					checkWrong(t, x, l, f, api.ErrArg)
				}
			}
		}
	}
}

// TestP12_1BuildNotSo takes names that may not be so: at each place of a list two are changed for each other.
func TestP12_1BuildNotSo(t *testing.T) {
	for _, f := range forms {
		for _, buckets := range []int{2, 3, 16, 1024} {
			x := gnu.Table{First: 1, Buckets: buckets, Words: 2, Shift: 6}
			good := sorted(several(60), buckets)
			for i := range len(good) - 1 {
				l := slices.Clone(good)
				l[i], l[i+1] = l[i+1], l[i]
				if bucketOf(l[i], buckets) == bucketOf(l[i+1], buckets) {
					checkBuild(t, x, l, f)
				} else {
					checkWrong(t, x, l, f, api.ErrOrder)
				}
			}
			slices.Reverse(good)
			checkWrong(t, x, good, f, api.ErrOrder)
		}
		x := gnu.Table{First: 1, Buckets: 2, Words: 1}
		checkWrong(t, x, []string{"b", "a"}, f, api.ErrOrder)
		checkWrong(t, x, []string{"a", "b", "a"}, f, api.ErrOrder)
		checkWrong(t, x, []string{"a", "c", "b", "b", "c"}, f, api.ErrOrder)
		checkBuild(t, x, []string{"a", "b"}, f)
		// Of one bucket all names may be so; of three, "c" stands ahead of "a".
		checkBuild(t, gnu.Table{First: 1, Buckets: 1, Words: 1}, []string{"b", "a", "", "a", "c"}, f)
		x.Buckets = 3
		checkWrong(t, x, []string{"a", "c"}, f, api.ErrOrder)
		checkBuild(t, x, []string{"c", "a", "b"}, f)
	}
}

// TestR1 holds ErrArg ahead of ErrOrder: each number that may not be, with names that may not be so.
func TestR1(t *testing.T) {
	for _, f := range forms {
		for _, bound := range bounds {
			for _, v := range beyond(bound.least, bound.most) {
				x := gnu.Table{First: 1, Buckets: 2, Words: 1, Shift: 1}
				checkWrong(t, x, []string{"b", "a"}, f, api.ErrOrder)
				bound.set(&x, v)
				checkWrong(t, x, []string{"b", "a"}, f, api.ErrArg)
				checkWrong(t, x, []string{"a", "b", "c"}, f, api.ErrArg)
			}
		}
	}
}

// TestR3 holds that with an error, and where there is nothing, there is nothing beside it, however much is right ahead.
func TestR3(t *testing.T) {
	for _, f := range forms {
		x := gnu.Table{First: 1, Buckets: 2, Words: 1, Shift: 1}
		l := append(sorted(several(500), 2), "a")
		if bucketOf(l[len(l)-2], 2) != 1 {
			t.Fatal("no name of the second bucket")
		}
		checkWrong(t, x, l, f, api.ErrOrder)
		b := checkBuild(t, x, l[:500], f)
		all := append([]string{"ahead"}, l[:500]...)
		for _, s := range append(several(600)[500:], "ahead") {
			checkPlace(t, b, all, f, s, -1)
		}
	}
}

// small tells a table of few names, with bytes behind it, and all names.
func small(f api.Form) (x gnu.Table, l, all []string, b []byte) {
	x = gnu.Table{First: 2, Buckets: 3, Words: 2, Shift: 5}
	l = sorted([]string{"a", "b", "c", "d", "e", "aB", "b!", "", "a"}, 3)
	return x, l, append(ahead(2), l...), reference(x, l, f)
}

// TestP12_2EachLength cuts a table off at each length: within the four numbers, the words, and the buckets nothing is
// found, and of the names those whose hash isn't there any more, and those behind them.
func TestP12_2EachLength(t *testing.T) {
	for _, f := range forms {
		x, l, all, b := small(f)
		for have := range len(b) + 1 {
			for _, s := range append(l, "z", "ahead0") {
				want := slices.Index(l, s)
				if want >= 0 && have >= hashesAt(x, f)+4*want+4 {
					want += x.First
				} else {
					want = -1
				}
				checkPlace(t, slices.Clip(b[:have]), all, f, s, want)
				checkPlace(t, b[:have], all, f, s, want)
			}
		}
	}
}

// TestP12_2BytesBehind lays bytes behind a table: they have no say.
func TestP12_2BytesBehind(t *testing.T) {
	for _, f := range forms {
		for _, x := range kinds() {
			l := sorted(several(30), x.Buckets)
			all := append(ahead(x.First), l...)
			b := checkBuild(t, x, l, f)
			for _, v := range []byte{0, 1, 0xfe, 0xff} {
				for _, n := range []int{1, 3, 4, 40} {
					longer := append(bytes.Clone(b), bytes.Repeat([]byte{v}, n)...)
					for _, s := range l {
						checkPlace(t, longer, all, f, s, x.First+slices.Index(l, s))
					}
					for _, s := range []string{"z", "zz", "ahead0"} {
						checkPlace(t, longer, all, f, s, -1)
						checkPlace(t, longer, append(all, s), f, s, -1)
					}
				}
			}
		}
	}
}

// TestP12_2EachByteAlone reads each byte of a table as all of 0 to 255.
func TestP12_2EachByteAlone(t *testing.T) {
	for _, f := range forms {
		_, l, all, b := small(f)
		b = append(b, 1, 2, 3, 4, 5)
		for i, was := range b {
			for v := range 256 {
				b[i] = byte(v)
				for _, s := range append(l, "z", all[0]) {
					checkLookup(t, b, all, f, s)
				}
			}
			b[i] = was
		}
	}
}

// great tells the least numbers, and the greatest ones that four bytes hold.
func great() []uint32 {
	l := []uint32{0, 1, 2, 3, 4, 5, 31, 32, 33, 63, 64, 65, 255, 256, 1025, 65537, 1 << 24, 1<<30 - 1, 1 << 30, 1<<30 + 1, 1<<31 - 1, 1 << 31, 1<<31 + 1}
	for v := most - 70; v != 0; v++ {
		l = append(l, v)
	}
	return l
}

// TestP12_2GreatNumbers says each of the four numbers, and each two of them, to be 0, small ones, and the greatest ones.
func TestP12_2GreatNumbers(t *testing.T) {
	for _, f := range forms {
		_, l, all, b := small(f)
		full := append(bytes.Clone(b[:numbers]), bytes.Repeat([]byte{0xff}, len(b))...)
		for _, b := range [][]byte{b, append(bytes.Clone(b), make([]byte, 300)...), full, b[:numbers]} {
			for i := range 4 {
				for _, v := range great() {
					bad := with(b, 4*i, f, v)
					for _, s := range l {
						checkLookup(t, bad, all, f, s)
					}
					for k := range i {
						for _, w := range []uint32{0, 1, 1 << 30, 1 << 31, most - 3, most, v, -v} {
							checkLookup(t, with(bad, 4*k, f, w), all, f, "a")
							checkLookup(t, with(bad, 4*k, f, w), all, f, "b")
						}
					}
				}
			}
		}
	}
}

// TestP12_2NoneOfThem holds by hand that with Buckets or Words of 0, or with more of them than bytes, nothing is found.
func TestP12_2NoneOfThem(t *testing.T) {
	for _, f := range forms {
		_, l, all, b := small(f)
		for _, s := range append(l, "z") {
			for _, at := range []int{0, 8} {
				for _, v := range []uint32{0, 1000, 1 << 29, 1 << 30, 1 << 31, most} {
					checkPlace(t, with(b, at, f, v), all, f, s, -1)
				}
			}
			checkPlace(t, with(with(b, 0, f, 0), 8, f, 0), all, f, s, -1)
			checkPlace(t, with(with(b, 0, f, most), 8, f, most), all, f, s, -1)
			checkPlace(t, make([]byte, 200), all, f, s, -1)
			checkPlace(t, bytes.Repeat([]byte{0xff}, 200), all, f, s, -1)
			checkPlace(t, nil, all, f, s, -1)
			checkPlace(t, []byte{}, all, f, s, -1)
		}
	}
}

// TestP12_2NoWrap says so many words, or buckets, that the place behind them, of 32 bits, would be the one they begin at;
// there stands all by which a name would be found.
func TestP12_2NoWrap(t *testing.T) {
	// The hash of "" is so small that its word and its bucket are among the bytes.
	h, all := uint32(5381), []string{"ahead", ""}
	for _, f := range forms {
		size := bitsIn(f) / 8
		whole := bytes.Repeat([]byte{0xff}, 40000)
		copy(whole, bytesOf(f, 1, 1, uint32(1<<32/size), 0, 1, h))
		checkPlace(t, whole, all, f, "", -1)

		whole = bytes.Repeat([]byte{0xff}, 40000)
		copy(whole, bytesOf(f, 1<<30, 1, 1, 0))
		at := numbers + size
		copy(whole[at:], bytesOf(f, h))
		copy(whole[at+4*int(h):], bytesOf(f, 1))
		checkPlace(t, whole, all, f, "", -1)
		// With no more buckets than are there the name is found.
		few := with(whole, 0, f, h+1)
		checkPlace(t, with(few, at+4*int(h)+4, f, h), all, f, "", 1)
	}
}

// TestP12_2GreatShift holds that of a Shift of 32 and more the second bit is the lowest one.
func TestP12_2GreatShift(t *testing.T) {
	for _, f := range forms {
		x := gnu.Table{First: 1, Buckets: 1, Words: 1, Shift: 31}
		for _, s := range []string{"a", "printf", "syscall"} {
			b := reference(x, []string{s}, f)
			for i := range bitsIn(f) / 8 {
				b[numbers+i] = 0
			}
			for _, bit := range []int{0, int(hashOf(s)) % bitsIn(f)} {
				at, v := bitAt(0, bit, f)
				b[at] |= v
			}
			for _, shift := range []uint32{32, 33, 63, 64, 65, 96, 127, 128, 256, 1 << 16, 1 << 31, most - 31, most - 1, most} {
				checkPlace(t, with(b, 12, f, shift), []string{"", s}, f, s, 1)
				for bit := range 2 {
					at, v := bitAt(0, []int{0, int(hashOf(s)) % bitsIn(f)}[bit], f)
					bad := with(b, 12, f, shift)
					bad[at] &^= v
					checkPlace(t, bad, []string{"", s}, f, s, -1)
				}
			}
		}
	}
}

// TestP12_2Bits holds that both bits are asked for: a name that stands in the table isn't found if one of them is 0,
// and one that doesn't isn't found if both, or all bits, are 1.
func TestP12_2Bits(t *testing.T) {
	for _, f := range forms {
		for _, x := range kinds()[:6] {
			l := sorted(several(25), x.Buckets)
			all := append(ahead(x.First), l...)
			b := reference(x, l, f)
			full, none := bytes.Clone(b), bytes.Clone(b)
			for i := numbers; i < bucketsAt(x, f); i++ {
				full[i], none[i] = 0xff, 0
			}
			for i, s := range l {
				word, bits := bitsOf(hashOf(s), x.Words, x.Shift, f)
				two := bytes.Clone(none)
				for _, bit := range bits {
					at, v := bitAt(word, bit, f)
					two[at] |= v
					bad := bytes.Clone(full)
					bad[at] &^= v
					checkPlace(t, bad, all, f, s, -1)
				}
				checkPlace(t, full, all, f, s, x.First+i)
				checkPlace(t, two, all, f, s, x.First+i)
				checkPlace(t, none, all, f, s, -1)
			}
			for _, s := range append(several(60)[25:], "a", "ahead0") {
				checkPlace(t, full, all, f, s, -1)
				checkPlace(t, full, append(all, s), f, s, -1)
				checkPlace(t, none, all, f, s, -1)
			}
		}
	}
}

// TestP12_2JustTheseBits takes words in which just one bit is 1, or just one is 0.
func TestP12_2JustTheseBits(t *testing.T) {
	for _, f := range forms {
		x := gnu.Table{First: 1, Buckets: 1, Words: 2, Shift: 4}
		for _, s := range []string{"a", "b", "", "printf"} {
			b := reference(x, []string{s}, f)
			for word := range 2 {
				for bit := range bitsIn(f) {
					at, v := bitAt(word, bit, f)
					b := bytes.Clone(b)
					b[at] ^= v
					checkLookup(t, b, []string{"", s}, f, s)
				}
			}
		}
	}
}

// TestP12_2BelowFirst takes a bucket's place that is below First, 0 among them: also where that name stands there, with
// its hash.
func TestP12_2BelowFirst(t *testing.T) {
	for _, f := range forms {
		for _, first := range []int{1, 2, 5, 300} {
			x := gnu.Table{First: first, Buckets: 1, Words: 1, Shift: 5}
			all := slices.Repeat([]string{"a"}, first+3)
			b := reference(x, all[first:], f)
			at := bucketsAt(x, f)
			for place := range first {
				checkPlace(t, with(b, at, f, uint32(place)), all, f, "a", -1)
			}
			for place := first; place < first+3; place++ {
				checkPlace(t, with(b, at, f, uint32(place)), all, f, "a", place)
			}
			// First is said to be greater, so that every place is below it, or to be less, so that none is.
			for _, v := range []uint32{uint32(first) + 1, 1 << 16, 1 << 31, most} {
				checkPlace(t, with(b, 4, f, v), all, f, "a", -1)
			}
		}
		// A First of 0 is none that may be built, but one that may be read; the place 0 is still none.
		b := with(reference(gnu.Table{First: 1, Buckets: 1, Words: 1, Shift: 5}, []string{"a", "a"}, f), 4, f, 0)
		checkPlace(t, b, []string{"", "a"}, f, "a", 1)
		checkPlace(t, with(b, bucketsAt(gnu.Table{Words: 1}, f), f, 0), []string{"a", "a"}, f, "a", -1)
	}
}

// TestP12_2OtherBuckets holds that just the name's own bucket has a say: the other ones' places may be any.
func TestP12_2OtherBuckets(t *testing.T) {
	for _, f := range forms {
		x, l, all, b := small(f)
		for i, s := range l {
			if slices.Index(l, s) != i {
				continue
			}
			for k := range x.Buckets {
				for _, v := range []uint32{0, 1, 2, uint32(len(all)), 1 << 31, most} {
					bad := with(b, bucketsAt(x, f)+4*k, f, v)
					if k != bucketOf(s, x.Buckets) {
						checkPlace(t, bad, all, f, s, x.First+i)
					}
					checkLookup(t, bad, all, f, s)
				}
			}
		}
	}
}

// TestP12_2NotOfAll takes fewer names than the table has, and buckets' places that are none of all.
func TestP12_2NotOfAll(t *testing.T) {
	for _, f := range forms {
		x, l, all, b := small(f)
		for n := range len(all) + 1 {
			for _, s := range l {
				want := slices.Index(l, s) + x.First
				if want >= n {
					want = -1
				}
				checkPlace(t, b, all[:n], f, s, want)
				checkPlace(t, b, slices.Clip(all[:n]), f, s, want)
			}
		}
		for k := range x.Buckets {
			for _, v := range []int{len(all), len(all) + 1, len(all) + 1000, math.MaxInt32, 1 << 31, math.MaxUint32} {
				bad := with(b, bucketsAt(x, f)+4*k, f, uint32(v))
				longer := append(bytes.Clone(bad), make([]byte, 5000)...)
				for _, s := range l {
					if bucketOf(s, x.Buckets) == k {
						checkPlace(t, bad, all, f, s, -1)
						checkPlace(t, longer, all, f, s, -1)
					}
				}
			}
		}
		for _, s := range l {
			checkPlace(t, b, nil, f, s, -1)
			checkPlace(t, b, []string{}, f, s, -1)
		}
	}
}

// TestP12_2NeverEnds takes a bucket whose names never end: the bytes end, or the names do, or the name is found first.
func TestP12_2NeverEnds(t *testing.T) {
	for _, f := range forms {
		x := gnu.Table{First: 2, Buckets: 1, Words: 1, Shift: 5}
		l := []string{"a", "b", "c", "d"}
		all := append(ahead(2), l...)
		b := reference(x, l, f)
		for at := bucketsAt(x, f) - bitsIn(f)/8; at < bucketsAt(x, f); at++ {
			b[at] = 0xff
		}
		at := hashesAt(x, f) + 4*3
		b = with(b, at, f, numberAt(b, at, f)&^1)
		many := append(slices.Clone(all), several(50)...)
		for _, behind := range []int{0, 1, 3, 4, 5, 8, 100, 1000} {
			longer := append(bytes.Clone(b), make([]byte, behind)...)
			for i, s := range l {
				checkPlace(t, longer, all, f, s, 2+i)
				checkPlace(t, longer, many, f, s, 2+i)
			}
			for _, s := range append(several(50), "z", "ahead0") {
				checkPlace(t, longer, all, f, s, -1)
				checkPlace(t, longer, many, f, s, -1)
			}
		}
		// What stands behind is read on as hashes, too, if all has names there.
		next := append(bytes.Clone(b), bytesOf(f, hashOf("e")&^1, hashOf("f"))...)
		more := append(slices.Clone(all), "e", "f")
		checkPlace(t, next, more, f, "e", 6)
		checkPlace(t, next, more, f, "f", 7)
		checkPlace(t, next, more[:7], f, "f", -1)
		checkPlace(t, next[:len(next)-1], more, f, "f", -1)
	}
}

// TestP12_2EndsAtLast holds that the names of a bucket end where the lowest bit is 1, though the name stands behind.
func TestP12_2EndsAtLast(t *testing.T) {
	for _, f := range forms {
		x := gnu.Table{First: 1, Buckets: 1, Words: 1, Shift: 5}
		l := []string{"a", "c", "b", "d", "e"}
		all := append([]string{""}, l...)
		b := reference(x, l, f)
		for cut := range l {
			at := hashesAt(x, f) + 4*cut
			ends := with(b, at, f, numberAt(b, at, f)|1)
			for i, s := range l {
				want := 1 + i
				if i > cut {
					want = -1
				}
				checkPlace(t, ends, all, f, s, want)
			}
		}
	}
}

// TestP12_2BothHold holds that the hash and the name must be the same: one of them isn't enough.
func TestP12_2BothHold(t *testing.T) {
	for _, f := range forms {
		x := gnu.Table{First: 1, Buckets: 1, Words: 1, Shift: 5}
		// "a" and "b" have hashes that are the same but for the lowest bit, "aB" and "b!" the same ones.
		for _, l := range [][]string{{"a", "b"}, {"b", "a"}, {"aB", "b!"}, {"b!", "aB"}, {"aB", "aC"}, {"aC", "b!"}, {"a", "b", "a", "b"}, {"aC", "aB", "b!", "aC"}} {
			checkEach(t, x, l, f, "a", "b", "aB", "b!", "aC")
		}
		b := reference(x, []string{"a", "c", "aB"}, f)
		for at := numbers; at < bucketsAt(x, f); at++ {
			b[at] = 0xff
		}
		// The names that all has there may be others: then their hashes aren't those that stand there.
		checkPlace(t, b, []string{"", "b", "c", "b!"}, f, "b", 1)
		checkPlace(t, b, []string{"", "b", "c", "b!"}, f, "b!", 3)
		checkPlace(t, b, []string{"", "b", "c", "aC"}, f, "aC", 3)
		checkPlace(t, b, []string{"", "x", "c", "b!"}, f, "a", -1)
		checkPlace(t, b, []string{"", "c", "a", "a"}, f, "a", -1)
		checkPlace(t, b, []string{"", "c", "c", "c"}, f, "c", 2)
		// Each other bit of a hash has a say, the lowest one none but that it ends the names.
		for bit := range 32 {
			want := -1
			if bit == 0 {
				want = 1
			}
			at := hashesAt(x, f)
			checkPlace(t, with(b, at, f, numberAt(b, at, f)^1<<bit), []string{"", "a", "c", "aB"}, f, "a", want)
		}
	}
}

// TestP12_2Ahead holds that names ahead of First aren't in the table.
func TestP12_2Ahead(t *testing.T) {
	for _, f := range forms {
		x := gnu.Table{First: 4, Buckets: 2, Words: 1, Shift: 5}
		l := []string{"a", "c", "b", "b"}
		b := reference(x, l, f)
		all := append([]string{"b", "a", "d", "e"}, l...)
		for s, want := range map[string]int{"a": 4, "c": 5, "b": 6, "d": -1, "e": -1} {
			checkPlace(t, b, all, f, s, want)
		}
		for _, first := range []int{1, 2, 1000, 65535, 65536} {
			x.First = first
			front := slices.Repeat([]string{"b", "a", "c", "d"}, first/4+1)[:first]
			b := reference(x, l, f)
			for s, want := range map[string]int{"a": first, "c": first + 1, "b": first + 2, "d": -1} {
				checkPlace(t, b, append(slices.Clone(front), l...), f, s, want)
			}
			checkPlace(t, b, front, f, "a", -1)
		}
	}
}

// TestP12_4 looks up each name of tables of many kinds, and names that they don't have.
func TestP12_4(t *testing.T) {
	for _, f := range forms {
		for _, x := range kinds() {
			for _, n := range []int{0, 1, 2, 5, 120} {
				l := several(n)
				others := append(several(150), "a", "b", "aB", "b!", "")
				checkEach(t, x, sorted(l, x.Buckets), f, others...)
				checkEach(t, x, sorted(slices.Concat(l, l, []string{"a", "b", "a", "aB", "b!", "aB"}), x.Buckets), f, others...)
				checkEach(t, x, slices.Repeat([]string{"one"}, n), f, others...)
			}
		}
	}
}

// TestP12_4Each takes all lists of up to four of some names, alike ones and ones of one hash among them.
func TestP12_4Each(t *testing.T) {
	pieces := []string{"", "a", "b", "aB", "b!"}
	lists := [][]string{{}}
	for i := 0; i < len(lists); i++ {
		for _, f := range forms {
			for _, buckets := range []int{1, 2, 3} {
				checkEach(t, gnu.Table{First: 1 + i%3, Buckets: buckets, Words: 1, Shift: 6}, sorted(lists[i], buckets), f, pieces...)
			}
		}
		for _, s := range pieces {
			if len(lists[i]) < 4 {
				lists = append(lists, append(slices.Clone(lists[i]), s))
			}
		}
	}
}

// TestP12_4VeryMany holds a bucket of very many names, and the last place of very many.
func TestP12_4VeryMany(t *testing.T) {
	for _, f := range forms {
		for _, buckets := range []int{1, 1000} {
			x := gnu.Table{First: 65536, Buckets: buckets, Words: 1024, Shift: 15}
			names := several(100000)
			var l []string
			for _, i := range gnu.Order(names, buckets) {
				l = append(l, names[i])
			}
			b := checkBuild(t, x, l, f)
			all := append(make([]string, x.First), l...)
			for i := 0; i < len(l); i += 9999 {
				checkPlace(t, b, all, f, l[i], x.First+i)
			}
			checkPlace(t, b, all, f, l[len(l)-1], len(all)-1)
			checkPlace(t, b, all, f, "none", -1)
		}
	}
}

// TestP12_4OtherForm reads tables in each other class and order: nothing is told but what those bytes tell.
func TestP12_4OtherForm(t *testing.T) {
	for _, f := range forms {
		for _, x := range kinds()[:6] {
			l := sorted(several(30), x.Buckets)
			all := append(ahead(x.First), l...)
			b := reference(x, l, f)
			for _, other := range forms {
				for _, s := range append(l, "z") {
					checkLookup(t, b, all, other, s)
				}
			}
		}
	}
}

// spoil changes all that bytes have room for.
func spoil(b []byte) {
	all := b[:cap(b)]
	for i := range all {
		all[i] = hold
	}
}

func TestP12_3BuildTellsNewMemory(t *testing.T) {
	for _, f := range forms {
		for _, x := range kinds() {
			l := sorted(several(9), x.Buckets)
			want := reference(x, l, f)
			for range 3 {
				b, err := gnu.Build(x, l, f)
				if err != nil || !bytes.Equal(b, want) {
					t.Error("once the earlier ones are spoilt:", short(b), err)
				}
				spoil(b)
			}
			first, _ := gnu.Build(x, l, f)
			second, _ := gnu.Build(x, nil, f)
			if !bytes.Equal(first, want) || !bytes.Equal(second, reference(x, nil, f)) {
				t.Error("two answers share memory:", short(first), short(second))
			}
		}
	}
}

func TestP12_3OrderTellsNewMemory(t *testing.T) {
	for _, buckets := range []int{1, 2, 7, 1024} {
		l := several(40)
		want := ordered(l, buckets)
		for range 3 {
			at := gnu.Order(l, buckets)
			if !slices.Equal(at, want) {
				t.Error("once the earlier ones are spoilt:", at)
			}
			all := at[:cap(at)]
			for i := range all {
				all[i] = hold
			}
		}
		first, second := gnu.Order(l, buckets), gnu.Order(l[:20], buckets)
		if !slices.Equal(first, want) || !slices.Equal(second, ordered(l[:20], buckets)) {
			t.Error("two answers share memory:", first, second)
		}
	}
}

// TestR2NamesAreNeitherChangedNorKept holds it also of the room behind the names, and of names that may not be so.
func TestR2NamesAreNeitherChangedNorKept(t *testing.T) {
	for _, f := range forms {
		x := gnu.Table{First: 1, Buckets: 5, Words: 2, Shift: 3}
		around := append(sorted(several(12), 5), "behind", "it")
		before := slices.Clone(around)
		l := around[:12]
		b, err := gnu.Build(x, l, f)
		at := gnu.Order(l, 3)
		gnu.Build(x, around, f)
		gnu.Build(gnu.Table{}, l, f)
		slices.Reverse(around)
		backwards := slices.Clone(around)
		gnu.Build(x, around, f)
		gnu.Order(around, 5)
		if !slices.Equal(around, backwards) {
			t.Error("what was handed in is changed:", around)
		}
		clear(around)
		if err != nil || !bytes.Equal(b, reference(x, before[:12], f)) || !slices.Equal(at, ordered(before[:12], 3)) {
			t.Error("what was told:", b, at, err)
		}
		checkBuild(t, x, l, f)
		checkOrder(t, l, 5)
		checkBuild(t, x, before[:12], f)
	}
}

func TestR2LookupChangesAndKeepsNothing(t *testing.T) {
	for _, f := range forms {
		_, l, all, b := small(f)
		b = append(b, hold, hold, hold, hold)
		bytesBefore, allBefore := bytes.Clone(b), slices.Clone(all)
		for n := range len(b) + 1 {
			for _, s := range append(slices.Clone(l), "z") {
				gnu.Lookup(b[:n], all, f, s)
				gnu.Lookup(b, all[:n%len(all)], f, s)
			}
		}
		if !bytes.Equal(b, bytesBefore) || !slices.Equal(all, allBefore) {
			t.Error("what was handed in is changed:", b, all)
		}
		clear(b)
		checkPlace(t, b, all, f, "a", -1)
		checkPlace(t, bytesBefore, allBefore, f, "a", slices.Index(allBefore, "a"))
		clear(all)
		checkPlace(t, bytesBefore, all, f, "a", -1)
		checkPlace(t, bytesBefore, allBefore, f, "a", slices.Index(allBefore, "a"))
	}
}

// noise tells so many bytes that mean nothing, the same ones each time.
func noise(n int) []byte {
	b := make([]byte, n)
	v := uint32(1)
	for i := range b {
		v = v*1664525 + 1013904223
		b[i] = byte(v >> 24)
	}
	return b
}

// TestP1LookupOfNoise reads bytes that mean nothing, behind four numbers that may be.
func TestP1LookupOfNoise(t *testing.T) {
	b := noise(700)
	all := append(ahead(3), several(40)...)
	for _, f := range forms {
		for from := range 200 {
			for _, buckets := range []uint32{1, 2, 9} {
				said := append(bytesOf(f, buckets, uint32(from%4), 1+uint32(from%5), uint32(from%40)), b[from:]...)
				// A bucket's place is no more than a few bits of what means nothing, so that some are among all names.
				for k := range int(buckets) {
					at := bucketsAt(gnu.Table{Words: 1 + from%5}, f) + 4*k
					copy(said[at:], bytesOf(f, uint32(b[from+k]%50)))
				}
				for _, s := range all {
					checkLookup(t, said, all, f, s)
				}
			}
			checkLookup(t, b[from:], all, f, all[from%len(all)])
		}
	}
}

func FuzzP1LookupNeverPanics(f *testing.F) {
	f.Add([]byte{}, "a")
	f.Add(noise(64), "")
	for _, x := range forms {
		_, l, _, b := small(x)
		for _, s := range l {
			f.Add(b, s)
		}
		f.Add(with(b, 0, x, most), "a")
		f.Add(with(b, 4, x, most), "a")
		f.Add(with(b, 8, x, most), "a")
		f.Add(with(b, 12, x, most), "a")
	}
	f.Fuzz(func(t *testing.T, b []byte, s string) {
		before := bytes.Clone(b)
		for _, x := range forms {
			_, _, all, _ := small(x)
			checkLookup(t, b, all, x, s)
			checkLookup(t, b, append(all, s), x, s)
			checkLookup(t, b, append([]string{s, s, s}, all...), x, s)
			checkLookup(t, b, nil, x, s)
		}
		if !bytes.Equal(b, before) {
			t.Error("R2: what was handed in is changed")
		}
	})
}

// FuzzP1BuildNeverPanics makes a list of the pieces between the commas: those can't have one, but any other byte.
func FuzzP1BuildNeverPanics(f *testing.F) {
	f.Add("a,b,c,a", 1, 2, 1, 5)
	f.Add("b,a", 1, 2, 1, 5)
	f.Add(",\xff,\x00,aB,b!", 65536, 1024, 1024, 31)
	f.Add("a", math.MaxInt, math.MinInt, math.MaxInt, math.MinInt)
	f.Fuzz(func(t *testing.T, names string, first, buckets, words, shift int) {
		x := gnu.Table{First: first, Buckets: buckets, Words: words, Shift: shift}
		l := strings.Split(names, ",")
		checkOrder(t, l, buckets)
		for _, s := range l {
			checkHash(t, s)
		}
		for _, form := range forms {
			if first < 1 || first > 65536 || buckets < 1 || buckets > 1024 || words < 1 || words > 1024 || shift < 0 || shift > 31 {
				checkWrong(t, x, l, form, api.ErrArg)
				continue
			}
			if !slices.IsSortedFunc(l, func(a, b string) int { return bucketOf(a, buckets) - bucketOf(b, buckets) }) {
				checkWrong(t, x, l, form, api.ErrOrder)
			}
			checkEach(t, x, sorted(l, buckets), form)
		}
	})
}
