package ver_test

import (
	"bytes"
	"encoding/binary"
	"fmt"
	"math"
	"slices"
	"testing"

	"bezant/api"
	"bezant/ver"
)

const most uint64 = math.MaxUint32

// hold is what spoils memory, and what lies around bytes.
const hold = 0xee

// entry is a definition or a need: its own numbers, and its parts' (without those that tell how many there are, and where).
type entry struct {
	nums  []uint64
	parts [][]uint64
}

// kind is how many bytes each number of one and of a part has, which of them is how many parts there are, and the calls.
type kind struct {
	name  string
	head  []int
	count int
	part  []int
	put   func(l []entry, big bool) ([]byte, error)
	all   func(b []byte, big bool) ([]entry, error)
}

// kinds tells both, of which all that follows holds alike.
func kinds() []kind {
	return []kind{
		{"definitions", []int{2, 2, 2, 2, 4, 4, 4}, 3, []int{4, 4}, putDefs, allDefs},
		{"needs", []int{2, 2, 4, 4, 4}, 1, []int{4, 2, 2, 4, 4}, putNeeds, allNeeds},
	}
}

// each runs a test of both kinds, in both orders.
func each(t *testing.T, test func(t *testing.T, k kind, big bool)) {
	for _, k := range kinds() {
		for _, big := range []bool{false, true} {
			t.Run(fmt.Sprint(k.name, " ", big), func(t *testing.T) { test(t, k, big) })
		}
	}
}

func defsOf(l []entry) []api.Def {
	var x []api.Def
	for _, e := range l {
		d := api.Def{Flags: uint16(e.nums[0]), Ndx: uint16(e.nums[1]), Hash: uint32(e.nums[2])}
		for _, p := range e.parts {
			d.Names = append(d.Names, uint32(p[0]))
		}
		x = append(x, d)
	}
	return x
}

func needsOf(l []entry) []api.Need {
	var x []api.Need
	for _, e := range l {
		d := api.Need{File: uint32(e.nums[0])}
		for _, p := range e.parts {
			d.Auxs = append(d.Auxs, api.Aux{Hash: uint32(p[0]), Flags: uint16(p[1]), Other: uint16(p[2]), Name: uint32(p[3])})
		}
		x = append(x, d)
	}
	return x
}

func putDefs(l []entry, big bool) ([]byte, error) { return ver.PutDefs(defsOf(l), big) }

func putNeeds(l []entry, big bool) ([]byte, error) { return ver.PutNeeds(needsOf(l), big) }

func allDefs(b []byte, big bool) ([]entry, error) {
	x, err := ver.Defs(b, big)
	var l []entry
	for _, d := range x {
		e := entry{nums: []uint64{uint64(d.Flags), uint64(d.Ndx), uint64(d.Hash)}}
		for _, n := range d.Names {
			e.parts = append(e.parts, []uint64{uint64(n)})
		}
		l = append(l, e)
	}
	return l, err
}

func allNeeds(b []byte, big bool) ([]entry, error) {
	x, err := ver.Needs(b, big)
	var l []entry
	for _, d := range x {
		e := entry{nums: []uint64{uint64(d.File)}}
		for _, a := range d.Auxs {
			e.parts = append(e.parts, []uint64{uint64(a.Hash), uint64(a.Flags), uint64(a.Other), uint64(a.Name)})
		}
		l = append(l, e)
	}
	return l, err
}

// sum tells how many bytes numbers have.
func sum(widths []int) int {
	n := 0
	for _, w := range widths {
		n += w
	}
	return n
}

func (k kind) size() int { return sum(k.head) }

func (k kind) partSize() int { return sum(k.part) }

// Where in one stand how many parts there are, where the first one stands, and the next one of its own kind.

func (k kind) countAt() int { return sum(k.head[:k.count]) }

func (k kind) firstAt() int { return k.size() - 8 }

func (k kind) nextAt() int { return k.size() - 4 }

// partNextAt tells where in a part the next part's place stands.
func (k kind) partNextAt() int { return k.partSize() - 4 }

// set lays a number of two or of four bytes by the library.
func set(b []byte, at, width int, v uint64, big bool) {
	var order binary.ByteOrder = binary.LittleEndian
	if big {
		order = binary.BigEndian
	}
	if width == 2 {
		order.PutUint16(b[at:], uint16(v))
	} else {
		order.PutUint32(b[at:], uint32(v))
	}
}

// setAll lays numbers, one behind the other.
func setAll(b []byte, at int, widths []int, l []uint64, big bool) {
	for i, w := range widths {
		set(b, at, w, l[i], big)
		at += w
	}
}

// numbers tells numbers, one behind the other, if all are there, by the library.
func numbers(b []byte, at int, widths []int, big bool) ([]uint64, bool) {
	var order binary.ByteOrder = binary.LittleEndian
	if big {
		order = binary.BigEndian
	}
	if at+sum(widths) > len(b) {
		return nil, false
	}
	var l []uint64
	for _, w := range widths {
		if w == 2 {
			l = append(l, uint64(order.Uint16(b[at:])))
		} else {
			l = append(l, uint64(order.Uint32(b[at:])))
		}
		at += w
	}
	return l, true
}

// setHead lays one, which has so many parts, from first on, and the next one at next.
func (k kind) setHead(b []byte, at int, e entry, first, next int, big bool) {
	l := append([]uint64{1}, e.nums[:k.count-1]...)
	l = append(l, uint64(len(e.parts)))
	l = append(l, e.nums[k.count-1:]...)
	setAll(b, at, k.head, append(l, uint64(first), uint64(next)), big)
}

// setPart lays a part, and the next one at next.
func (k kind) setPart(b []byte, at int, part []uint64, next int, big bool) {
	setAll(b, at, k.part, append(slices.Clone(part), uint64(next)), big)
}

// gaps is how many bytes lie ahead of the first part, of a next part, and of a next one.
type gaps struct{ first, part, next int }

// laid tells bytes with these gaps, which are filled with hold.
func (k kind) laid(l []entry, g gaps, big bool) []byte {
	var b []byte
	for i, e := range l {
		at := len(b)
		n := k.size() + g.first + len(e.parts)*k.partSize() + (len(e.parts)-1)*g.part
		next := 0
		if i < len(l)-1 {
			next = n + g.next
		}
		b = append(b, bytes.Repeat([]byte{hold}, max(n, next))...)
		k.setHead(b, at, e, k.size()+g.first, next, big)
		at += k.size() + g.first
		for j, p := range e.parts {
			off := 0
			if j < len(e.parts)-1 {
				off = k.partSize() + g.part
			}
			k.setPart(b, at, p, off, big)
			at += off
		}
	}
	return b
}

// reference tells bytes as they are put.
func (k kind) reference(l []entry, big bool) []byte { return k.laid(l, gaps{}, big) }

// told tells all, or the error's code and its place.
func (k kind) told(b []byte, big bool) ([]entry, api.Code, int) {
	var l []entry
	next := -1
	for at := 0; len(b) != 0 && next != 0; at += next {
		h, ok := numbers(b, at, k.head, big)
		if !ok {
			return nil, api.ErrShort, min(at, len(b))
		}
		n := len(h)
		if h[0] != 1 || h[k.count] == 0 || h[n-2] < uint64(k.size()) {
			return nil, api.ErrForm, at
		}
		parts, code, place := k.toldParts(b, at+int(h[n-2]), int(h[k.count]), big)
		if code != 0 {
			return nil, code, place
		}
		if next = int(h[n-1]); next != 0 && next < k.size() {
			return nil, api.ErrForm, at
		}
		l = append(l, entry{nums: slices.Concat(h[1:k.count], h[k.count+1:n-2]), parts: parts})
	}
	return l, 0, 0
}

// toldParts tells so many parts, from a place on, or the error's code and its place.
func (k kind) toldParts(b []byte, at, n int, big bool) ([][]uint64, api.Code, int) {
	p, ok := numbers(b, at, k.part, big)
	if !ok {
		return nil, api.ErrShort, min(at, len(b))
	}
	off := int(p[len(p)-1])
	p = p[:len(p)-1]
	switch {
	case n == 1 && off != 0, n > 1 && off < k.partSize():
		return nil, api.ErrForm, at
	case n == 1:
		return [][]uint64{p}, 0, 0
	}
	rest, code, place := k.toldParts(b, at+off, n-1, big)
	return append([][]uint64{p}, rest...), code, place
}

// alike tells whether two are the same.
func alike(a, b entry) bool {
	return slices.Equal(a.nums, b.nums) && slices.EqualFunc(a.parts, b.parts, slices.Equal)
}

// of tells one of so many parts, in which each number is another one.
func (k kind) of(first uint64, parts int) entry {
	v := first*0x01000193 + 0x01020304
	some := func(widths []int) []uint64 {
		var l []uint64
		for _, w := range widths {
			v += 0x11131715
			l = append(l, v&(1<<(8*w)-1))
		}
		return l
	}
	e := entry{nums: some(slices.Concat(k.head[1:k.count], k.head[k.count+1:len(k.head)-2]))}
	for range parts {
		e.parts = append(e.parts, some(k.part[:len(k.part)-1]))
	}
	return e
}

// several tells some with so many parts each.
func (k kind) several(parts ...int) []entry {
	var l []entry
	for i, n := range parts {
		l = append(l, k.of(uint64(i), n))
	}
	return l
}

// short tells a text of no great length, since bytes may be very many.
func short(v any) string {
	s := fmt.Sprint(v)
	if len(s) > 400 {
		return s[:400] + "..."
	}
	return s
}

// checkPut holds what is put against the reference, and that it is got, other bytes behind it or not: P13.4.
func (k kind) checkPut(t *testing.T, l []entry, big bool) {
	t.Helper()
	b, err := k.put(l, big)
	if want := k.reference(l, big); err != nil || !bytes.Equal(b, want) {
		t.Errorf("put %s: %s, %v, not %s", short(l), short(b), err, short(want))
		return
	}
	k.checkGot(t, b, big, l)
	if len(l) != 0 {
		k.checkGot(t, append(b, 1, 0, 1, 0, hold), big, l)
	}
}

// checkArg holds ErrArg, itself, and R3.
func (k kind) checkArg(t *testing.T, l []entry, big bool) {
	t.Helper()
	if b, err := k.put(l, big); err != error(api.ErrArg) || len(b) != 0 {
		t.Errorf("put %s: %s, %v, not ErrArg", short(l), short(b), err)
	}
}

// checkGot holds what is told of bytes.
func (k kind) checkGot(t *testing.T, b []byte, big bool, want []entry) {
	t.Helper()
	if l, err := k.all(b, big); err != nil || !slices.EqualFunc(l, want, alike) {
		t.Errorf("%s: %s, %v, not %s", short(b), short(l), err, short(want))
	}
}

// checkWrong holds the error, that it is a pointer to a Spot, its place, and R3.
func (k kind) checkWrong(t *testing.T, b []byte, big bool, code api.Code, at int) {
	t.Helper()
	l, err := k.all(b, big)
	spot, ok := err.(*api.Spot)
	if !ok || spot == nil || *spot != (api.Spot{At: at, Code: code}) || len(l) != 0 {
		t.Errorf("%s: %s, %v, not %v at %d", short(b), short(l), err, code, at)
	}
}

// checkAll holds what is told of bytes against the reference.
func (k kind) checkAll(t *testing.T, b []byte, big bool) {
	t.Helper()
	if l, code, at := k.told(b, big); code != 0 {
		k.checkWrong(t, b, big, code, at)
	} else {
		k.checkGot(t, b, big, l)
	}
}

// The bytes themselves, so that the reference isn't all that holds them.

var defsByHand = map[bool][]byte{
	false: {
		1, 0, 0xa2, 0xa1, 0xb2, 0xb1, 2, 0, 0xc4, 0xc3, 0xc2, 0xc1, 20, 0, 0, 0, 36, 0, 0, 0,
		0xd4, 0xd3, 0xd2, 0xd1, 8, 0, 0, 0,
		5, 0, 0, 0, 0, 0, 0, 0,
		1, 0, 1, 0, 6, 0, 1, 0, 7, 0, 0, 0, 20, 0, 0, 0, 0, 0, 0, 0,
		8, 0, 0, 0, 0, 0, 0, 0,
	},
	true: {
		0, 1, 0xa1, 0xa2, 0xb1, 0xb2, 0, 2, 0xc1, 0xc2, 0xc3, 0xc4, 0, 0, 0, 20, 0, 0, 0, 36,
		0xd1, 0xd2, 0xd3, 0xd4, 0, 0, 0, 8,
		0, 0, 0, 5, 0, 0, 0, 0,
		0, 1, 0, 1, 0, 6, 0, 1, 0, 0, 0, 7, 0, 0, 0, 20, 0, 0, 0, 0,
		0, 0, 0, 8, 0, 0, 0, 0,
	},
}

var needsByHand = map[bool][]byte{
	false: {
		1, 0, 2, 0, 0xa4, 0xa3, 0xa2, 0xa1, 16, 0, 0, 0, 48, 0, 0, 0,
		0xb4, 0xb3, 0xb2, 0xb1, 0xc2, 0xc1, 0xd2, 0xd1, 0xe4, 0xe3, 0xe2, 0xe1, 16, 0, 0, 0,
		5, 0, 0, 0, 6, 0, 7, 0, 8, 0, 0, 0, 0, 0, 0, 0,
		1, 0, 1, 0, 9, 0, 0, 0, 16, 0, 0, 0, 0, 0, 0, 0,
		0, 0, 0, 0, 0, 0, 1, 0, 0, 0, 0, 0, 0, 0, 0, 0,
	},
	true: {
		0, 1, 0, 2, 0xa1, 0xa2, 0xa3, 0xa4, 0, 0, 0, 16, 0, 0, 0, 48,
		0xb1, 0xb2, 0xb3, 0xb4, 0xc1, 0xc2, 0xd1, 0xd2, 0xe1, 0xe2, 0xe3, 0xe4, 0, 0, 0, 16,
		0, 0, 0, 5, 0, 6, 0, 7, 0, 0, 0, 8, 0, 0, 0, 0,
		0, 1, 0, 1, 0, 0, 0, 9, 0, 0, 0, 16, 0, 0, 0, 0,
		0, 0, 0, 0, 0, 0, 0, 1, 0, 0, 0, 0, 0, 0, 0, 0,
	},
}

func handDefs() []api.Def {
	return []api.Def{
		{Flags: 0xa1a2, Ndx: 0xb1b2, Hash: 0xc1c2c3c4, Names: []uint32{0xd1d2d3d4, 5}},
		{Flags: 1, Ndx: 6, Hash: 7, Names: []uint32{8}},
	}
}

func handNeeds() []api.Need {
	return []api.Need{
		{File: 0xa1a2a3a4, Auxs: []api.Aux{
			{Hash: 0xb1b2b3b4, Flags: 0xc1c2, Other: 0xd1d2, Name: 0xe1e2e3e4}, {Hash: 5, Flags: 6, Other: 7, Name: 8},
		}},
		{File: 9, Auxs: []api.Aux{{Other: 1}}},
	}
}

func sameDef(a, b api.Def) bool {
	return a.Flags == b.Flags && a.Ndx == b.Ndx && a.Hash == b.Hash && slices.Equal(a.Names, b.Names)
}

func sameNeed(a, b api.Need) bool { return a.File == b.File && slices.Equal(a.Auxs, b.Auxs) }

func TestP13_1DefsByHand(t *testing.T) {
	for big, b := range defsByHand {
		if c, err := ver.PutDefs(handDefs(), big); err != nil || !bytes.Equal(c, b) {
			t.Errorf("PutDefs: %v, %v, not %v", c, err, b)
		}
		if c, err := ver.PutDefs(handDefs()[1:], big); err != nil || !bytes.Equal(c, b[36:]) {
			t.Errorf("PutDefs of the second: %v, %v, not %v", c, err, b[36:])
		}
	}
}

func TestP13_1NeedsByHand(t *testing.T) {
	for big, b := range needsByHand {
		if c, err := ver.PutNeeds(handNeeds(), big); err != nil || !bytes.Equal(c, b) {
			t.Errorf("PutNeeds: %v, %v, not %v", c, err, b)
		}
		if c, err := ver.PutNeeds(handNeeds()[1:], big); err != nil || !bytes.Equal(c, b[48:]) {
			t.Errorf("PutNeeds of the second: %v, %v, not %v", c, err, b[48:])
		}
	}
}

func TestP13_2DefsByHand(t *testing.T) {
	for big, b := range defsByHand {
		if l, err := ver.Defs(b, big); err != nil || !slices.EqualFunc(l, handDefs(), sameDef) {
			t.Errorf("Defs: %v, %v", l, err)
		}
		if l, err := ver.Defs(b[36:], big); err != nil || !slices.EqualFunc(l, handDefs()[1:], sameDef) {
			t.Errorf("Defs of the second: %v, %v", l, err)
		}
	}
}

func TestP13_2NeedsByHand(t *testing.T) {
	for big, b := range needsByHand {
		if l, err := ver.Needs(b, big); err != nil || !slices.EqualFunc(l, handNeeds(), sameNeed) {
			t.Errorf("Needs: %v, %v", l, err)
		}
		if l, err := ver.Needs(b[48:], big); err != nil || !slices.EqualFunc(l, handNeeds()[1:], sameNeed) {
			t.Errorf("Needs of the second: %v, %v", l, err)
		}
	}
}

func TestP13_1None(t *testing.T) {
	for _, big := range []bool{false, true} {
		for _, l := range [][]api.Def{nil, {}, handDefs()[1:1]} {
			if b, err := ver.PutDefs(l, big); err != nil || len(b) != 0 {
				t.Errorf("PutDefs of none: %v, %v", b, err)
			}
		}
		for _, l := range [][]api.Need{nil, {}, handNeeds()[1:1]} {
			if b, err := ver.PutNeeds(l, big); err != nil || len(b) != 0 {
				t.Errorf("PutNeeds of none: %v, %v", b, err)
			}
		}
	}
}

func TestP13_2NoBytes(t *testing.T) {
	each(t, func(t *testing.T, k kind, big bool) {
		for _, b := range [][]byte{nil, {}, k.reference(k.several(1), big)[:0]} {
			k.checkGot(t, b, big, nil)
		}
	})
}

// eachNumber tells one with two parts again and again, each of its numbers in turn set to each of some.
func (k kind) eachNumber(tell func(e entry)) {
	free := slices.Concat(k.head[1:k.count], k.head[k.count+1:len(k.head)-2])
	values := func(w int) []uint64 {
		greatest := uint64(1)<<(8*w) - 1
		l := []uint64{0, greatest}
		for bit := range 8 * w {
			l = append(l, 1<<bit, greatest&^(1<<bit), 1<<bit-1)
		}
		return l
	}
	for i, w := range free {
		for _, v := range values(w) {
			e := k.of(1, 2)
			e.nums[i] = v
			tell(e)
		}
	}
	for part := range 2 {
		for i, w := range k.part[:len(k.part)-1] {
			for _, v := range values(w) {
				e := k.of(2, 2)
				e.parts[part][i] = v
				tell(e)
			}
		}
	}
}

// TestP13_1EachNumber sets each number to 0, to the greatest one, and to those with each bit alone.
func TestP13_1EachNumber(t *testing.T) {
	each(t, func(t *testing.T, k kind, big bool) {
		k.eachNumber(func(e entry) {
			k.checkPut(t, []entry{e}, big)
			k.checkPut(t, []entry{k.of(3, 1), e, k.of(4, 2)}, big)
		})
	})
}

// TestP13_1AllGreatest sets all numbers to 0 at once, and to the greatest ones.
func TestP13_1AllGreatest(t *testing.T) {
	each(t, func(t *testing.T, k kind, big bool) {
		for _, v := range []uint64{0, most} {
			e := k.of(0, 3)
			for _, l := range append(slices.Clone(e.parts), e.nums) {
				for i := range l {
					l[i] = v
				}
			}
			// A number of two bytes has the lowest two of them.
			for i, w := range slices.Concat(k.head[1:k.count], k.head[k.count+1:len(k.head)-2]) {
				e.nums[i] &= 1<<(8*w) - 1
			}
			for _, p := range e.parts {
				for i, w := range k.part[:len(k.part)-1] {
					p[i] &= 1<<(8*w) - 1
				}
			}
			k.checkPut(t, []entry{e}, big)
			k.checkPut(t, []entry{e, e, e}, big)
		}
	})
}

// TestP13_1HowMany takes each count of up to 40 parts, alone and with others, and each count of up to 40.
func TestP13_1HowMany(t *testing.T) {
	each(t, func(t *testing.T, k kind, big bool) {
		for n := 1; n < 41; n++ {
			k.checkPut(t, k.several(n), big)
			k.checkPut(t, k.several(n, 1, n), big)
			k.checkPut(t, k.several(1, n, 2), big)
			var l []entry
			for i := range n {
				l = append(l, k.of(uint64(i), 1+i%4))
			}
			k.checkPut(t, l, big)
		}
	})
}

// TestP13_1ManyParts takes as many parts as there may be, and such that how many they are has both bytes.
func TestP13_1ManyParts(t *testing.T) {
	each(t, func(t *testing.T, k kind, big bool) {
		for _, n := range []int{255, 256, 257, 1000, 32767, 32768, 65534, 65535} {
			l := k.several(2, n, 1)
			b, err := k.put(l, big)
			if err != nil || !bytes.Equal(b, k.reference(l, big)) {
				t.Errorf("put of %d: %d bytes, %v", n, len(b), err)
			}
			if x, err := k.all(b, big); err != nil || !slices.EqualFunc(x, l, alike) {
				t.Errorf("all of %d: %d, %v", n, len(x), err)
			}
			end := len(b) - k.size() - k.partSize()
			k.checkWrong(t, b[:end-1], big, api.ErrShort, end-k.partSize())
			b[end-1]++
			b[end-4]++
			k.checkWrong(t, b, big, api.ErrForm, end-k.partSize())
		}
	})
}

// TestP13_1TooMany takes one more part than there may be, and more, alone, behind others, and ahead of them.
func TestP13_1TooMany(t *testing.T) {
	each(t, func(t *testing.T, k kind, big bool) {
		for _, n := range []int{65536, 65537, 65536 + 256, 131071, 131073} {
			bad := k.of(0, n)
			k.checkArg(t, []entry{bad}, big)
			k.checkArg(t, []entry{k.of(1, 1), bad}, big)
			k.checkArg(t, []entry{bad, k.of(1, 1)}, big)
			k.checkArg(t, []entry{k.of(1, 1), k.of(2, 9), bad, k.of(3, 2)}, big)
		}
	})
}

func TestP13_1NoParts(t *testing.T) {
	each(t, func(t *testing.T, k kind, big bool) {
		bad := k.of(0, 0)
		k.checkArg(t, []entry{bad}, big)
		k.checkArg(t, []entry{bad, bad}, big)
		for n := range 12 {
			for i := range n + 1 {
				l := slices.Insert(k.several(slices.Repeat([]int{2}, n)...), i, bad)
				k.checkArg(t, l, big)
			}
		}
	})
}

// TestP13_1NoPartsAtAll holds that Names and Auxs that are there, but have nothing in them, are none, too.
func TestP13_1NoPartsAtAll(t *testing.T) {
	for _, big := range []bool{false, true} {
		for _, names := range [][]uint32{nil, {}, make([]uint32, 4)[:0]} {
			if b, err := ver.PutDefs([]api.Def{{Flags: 1, Ndx: 2, Hash: 3, Names: names}}, big); err != error(api.ErrArg) || b != nil {
				t.Errorf("PutDefs: %v, %v", b, err)
			}
		}
		for _, auxs := range [][]api.Aux{nil, {}, make([]api.Aux, 4)[:0]} {
			if b, err := ver.PutNeeds([]api.Need{{File: 1, Auxs: auxs}}, big); err != error(api.ErrArg) || b != nil {
				t.Errorf("PutNeeds: %v, %v", b, err)
			}
		}
	}
}

// TestR1BothWrong holds that one without parts and one with too many, in either sequence, are one answer.
func TestR1BothWrong(t *testing.T) {
	each(t, func(t *testing.T, k kind, big bool) {
		k.checkArg(t, k.several(0, 65536), big)
		k.checkArg(t, k.several(65536, 0), big)
		k.checkArg(t, k.several(1, 0, 65536, 0), big)
	})
}

// TestP13_1VeryMany takes 100000 of them, which is more than two bytes could count.
func TestP13_1VeryMany(t *testing.T) {
	each(t, func(t *testing.T, k kind, big bool) {
		var l []entry
		for i := range 100000 {
			l = append(l, k.of(uint64(i), 1+i%3))
		}
		b := k.reference(l, big)
		if c, err := k.put(l, big); err != nil || !bytes.Equal(c, b) {
			t.Errorf("put: %d bytes, %v", len(c), err)
		}
		if x, err := k.all(b, big); err != nil || !slices.EqualFunc(x, l, alike) {
			t.Errorf("all: %d, %v", len(x), err)
		}
		k.checkWrong(t, b[:len(b)-1], big, api.ErrShort, len(b)-k.partSize())
	})
}

// TestP13_2FartherOff leaves bytes between one and its parts, between parts, and ahead of a next one.
func TestP13_2FartherOff(t *testing.T) {
	each(t, func(t *testing.T, k kind, big bool) {
		for _, first := range []int{0, 1, 2, 3, 7, 300, 70000} {
			for _, part := range []int{0, 1, 5, 8, 400} {
				for _, next := range []int{0, 1, 3, 4, 9, 500, 70000} {
					for _, l := range [][]entry{k.several(1), k.several(4), k.several(3, 1, 2)} {
						b := k.laid(l, gaps{first, part, next}, big)
						k.checkGot(t, b, big, l)
						k.checkGot(t, append(b, hold), big, l)
						k.checkWrong(t, b[:len(b)-1], big, api.ErrShort, len(b)-k.partSize())
					}
				}
			}
		}
	})
}

// TestP13_2FartherOffByFourBytes lets each of a place's four bytes tell something.
func TestP13_2FartherOffByFourBytes(t *testing.T) {
	each(t, func(t *testing.T, k kind, big bool) {
		const far = 0x01020304
		one, two := k.of(0, 2), k.of(1, 1)
		b := make([]byte, 3*far)
		k.setHead(b, 0, one, far, far+100, big)
		k.setPart(b, far, one.parts[0], far+200, big)
		k.setPart(b, 2*far+200, one.parts[1], 0, big)
		k.setHead(b, far+100, two, far+200, 0, big)
		k.setPart(b, 2*far+300, two.parts[0], 0, big)
		if l, err := k.all(b, big); err != nil || !slices.EqualFunc(l, []entry{one, two}, alike) {
			t.Errorf("all: %s, %v", short(l), err)
		}
	})
}

// TestP13_2PartsBehindTheNext lays all of them ahead of all parts, the last one's parts first.
func TestP13_2PartsBehindTheNext(t *testing.T) {
	each(t, func(t *testing.T, k kind, big bool) {
		l := k.several(2, 1, 3, 1)
		b := make([]byte, len(l)*k.size())
		for i := len(l) - 1; i >= 0; i-- {
			first := len(b)
			for j, p := range l[i].parts {
				at := len(b)
				b = append(b, make([]byte, k.partSize())...)
				off := 0
				if j < len(l[i].parts)-1 {
					off = k.partSize()
				}
				k.setPart(b, at, p, off, big)
			}
			next := 0
			if i < len(l)-1 {
				next = k.size()
			}
			k.setHead(b, i*k.size(), l[i], first-i*k.size(), next, big)
		}
		k.checkGot(t, b, big, l)
		k.checkGot(t, append(b, hold, hold), big, l)
	})
}

// TestP13_2SamePart lets all have the same parts, the later ones of them fewer.
func TestP13_2SamePart(t *testing.T) {
	each(t, func(t *testing.T, k kind, big bool) {
		const n = 6
		whole := k.of(9, n)
		b := make([]byte, n*k.size()+n*k.partSize())
		var l []entry
		for i := range n {
			e := k.of(uint64(i), 0)
			e.parts = whole.parts[i:]
			l = append(l, e)
			next, off := k.size(), k.partSize()
			if i == n-1 {
				next, off = 0, 0
			}
			k.setHead(b, i*k.size(), e, (n-i)*k.size()+i*k.partSize(), next, big)
			k.setPart(b, n*k.size()+i*k.partSize(), whole.parts[i], off, big)
		}
		k.checkGot(t, b, big, l)
	})
}

// crossed tells bytes in which each one but the last is a part of those ahead of it, too: a part's last number is its own.
func (k kind) crossed(n int, big bool) []byte {
	b := make([]byte, n*k.size()+k.partSize())
	into := k.size() - k.partSize()
	for i := range n {
		e := k.of(uint64(i), 0)
		e.parts = make([][]uint64, max(n-1-i, 1))
		first, next := k.size()+into, k.size()
		if i == n-1 {
			first, next = k.size(), 0
		}
		k.setHead(b, i*k.size(), e, first, next, big)
	}
	return b
}

// TestP13_2PartsWithinOthers lets the parts' chain run through the same bytes as the chain of what has them.
func TestP13_2PartsWithinOthers(t *testing.T) {
	each(t, func(t *testing.T, k kind, big bool) {
		for _, n := range []int{1, 2, 3, 4, 40} {
			b := k.crossed(n, big)
			l, err := k.all(b, big)
			if err != nil || len(l) != n {
				t.Fatalf("all of %d: %d, %v", n, len(l), err)
			}
			for i, e := range l {
				if len(e.parts) != max(n-1-i, 1) {
					t.Errorf("%d of %d has %d parts", i, n, len(e.parts))
				}
			}
			k.checkAll(t, b, big)
		}
	})
}

// TestP13_2PartsWithinOthersByHand tells what is read of a definition whose name is the next definition's end.
func TestP13_2PartsWithinOthersByHand(t *testing.T) {
	b := []byte{
		1, 0, 2, 0, 3, 0, 1, 0, 4, 0, 0, 0, 32, 0, 0, 0, 20, 0, 0, 0,
		1, 0, 5, 0, 6, 0, 1, 0, 7, 0, 0, 0, 20, 0, 0, 0, 0, 0, 0, 0,
		8, 0, 0, 0, 0, 0, 0, 0,
	}
	want := []api.Def{{Flags: 2, Ndx: 3, Hash: 4, Names: []uint32{20}}, {Flags: 5, Ndx: 6, Hash: 7, Names: []uint32{8}}}
	if l, err := ver.Defs(b, false); err != nil || !slices.EqualFunc(l, want, sameDef) {
		t.Errorf("Defs: %v, %v", l, err)
	}
	c := []byte{
		1, 0, 1, 0, 3, 0, 0, 0, 16, 0, 0, 0, 16, 0, 0, 0,
		1, 0, 1, 0, 4, 0, 0, 0, 16, 0, 0, 0, 0, 0, 0, 0,
		8, 0, 0, 0, 9, 0, 10, 0, 11, 0, 0, 0, 0, 0, 0, 0,
	}
	needs := []api.Need{
		{File: 3, Auxs: []api.Aux{{Hash: 0x10001, Flags: 4, Name: 16}}},
		{File: 4, Auxs: []api.Aux{{Hash: 8, Flags: 9, Other: 10, Name: 11}}},
	}
	if l, err := ver.Needs(c, false); err != nil || !slices.EqualFunc(l, needs, sameNeed) {
		t.Errorf("Needs: %v, %v", l, err)
	}
}

// TestP13_2BytesBehind lays bytes behind the last one, each value of them, and more of its own kind.
func TestP13_2BytesBehind(t *testing.T) {
	each(t, func(t *testing.T, k kind, big bool) {
		for _, l := range [][]entry{k.several(1), k.several(3), k.several(2, 1), k.several(1, 1, 4)} {
			b := k.reference(l, big)
			for n := range 50 {
				for _, v := range []byte{0, 1, hold, 255} {
					k.checkGot(t, slices.Concat(b, bytes.Repeat([]byte{v}, n)), big, l)
				}
			}
			for v := range 256 {
				k.checkGot(t, slices.Concat(b, []byte{byte(v)}), big, l)
			}
			k.checkGot(t, slices.Concat(b, b), big, l)
		}
	})
}

// TestP13_2EachLength cuts bytes off at each length: At is where that begins which isn't whole.
func TestP13_2EachLength(t *testing.T) {
	each(t, func(t *testing.T, k kind, big bool) {
		counts := []int{1, 3, 2, 1}
		b := k.reference(k.several(counts...), big)
		var begins []int
		for at, i := 0, 0; i < len(counts); i++ {
			begins = append(begins, at)
			at += k.size()
			for range counts[i] {
				begins = append(begins, at)
				at += k.partSize()
			}
		}
		for have := 1; have < len(b); have++ {
			// What begins just where the bytes end isn't whole, either.
			i, found := slices.BinarySearch(begins, have)
			if !found {
				i--
			}
			k.checkWrong(t, slices.Clip(b[:have]), big, api.ErrShort, begins[i])
		}
		k.checkGot(t, b, big, k.several(counts...))
	})
}

// TestP13_2EachLengthWithGaps cuts off bytes with gaps in them: At is how many there are, if they end in a gap.
func TestP13_2EachLengthWithGaps(t *testing.T) {
	each(t, func(t *testing.T, k kind, big bool) {
		b := k.laid(k.several(2, 1), gaps{5, 3, 9}, big)
		one := k.size() + 5
		two := one + k.partSize() + 3
		other := two + k.partSize() + 9
		last := other + k.size() + 5
		begins := []int{0, one, two, other, last}
		ends := []int{k.size(), one + k.partSize(), two + k.partSize(), other + k.size()}
		for have := 1; have < len(b); have++ {
			at := have
			for i, begin := range begins[:4] {
				if begin <= have && have < ends[i] {
					at = begin
				}
			}
			if have >= last {
				at = last
			}
			k.checkWrong(t, b[:have], big, api.ErrShort, at)
		}
		k.checkGot(t, b, big, k.several(2, 1))
	})
}

// TestP13_2LengthNotCapacity holds that bytes behind the end of those handed in aren't read.
func TestP13_2LengthNotCapacity(t *testing.T) {
	each(t, func(t *testing.T, k kind, big bool) {
		b := k.reference(k.several(2, 1, 3), big)
		for have := range len(b) {
			_, code, at := k.told(slices.Clip(b[:have]), big)
			if have != 0 {
				k.checkWrong(t, b[:have], big, code, at)
			}
		}
		k.checkGot(t, b[:0], big, nil)
	})
}

// TestP13_2FirstNumber sets the first number to each that has one of its bits alone, to 0, 2, and others.
func TestP13_2FirstNumber(t *testing.T) {
	each(t, func(t *testing.T, k kind, big bool) {
		l := k.several(2, 1, 3)
		second := k.size() + 2*k.partSize()
		third := second + k.size() + k.partSize()
		values := []uint64{0, 2, 3, 255, 257, 65535}
		for bit := 1; bit < 16; bit++ {
			values = append(values, 1<<bit, 1<<bit|1)
		}
		for _, v := range values {
			for _, at := range []int{0, second, third} {
				b := k.reference(l, big)
				set(b, at, 2, v, big)
				k.checkWrong(t, b, big, api.ErrForm, at)
				k.checkWrong(t, append(b, hold), big, api.ErrForm, at)
			}
		}
	})
}

// TestP13_2NoParts says how many there are to be 0, whatever the places are.
func TestP13_2NoParts(t *testing.T) {
	each(t, func(t *testing.T, k kind, big bool) {
		l := k.several(1, 2, 1)
		second := k.size() + k.partSize()
		for _, at := range []int{0, second} {
			b := k.reference(l, big)
			set(b, at+k.countAt(), 2, 0, big)
			k.checkWrong(t, b, big, api.ErrForm, at)
			for _, first := range []uint64{0, 1, uint64(k.size()), most} {
				for _, next := range []uint64{0, 1, uint64(k.size()), most} {
					set(b, at+k.firstAt(), 4, first, big)
					set(b, at+k.nextAt(), 4, next, big)
					k.checkWrong(t, b, big, api.ErrForm, at)
				}
			}
		}
	})
}

// TestP13_2NoPartsAlone has nothing behind one without parts.
func TestP13_2NoPartsAlone(t *testing.T) {
	each(t, func(t *testing.T, k kind, big bool) {
		b := make([]byte, k.size())
		for _, first := range []int{0, k.size()} {
			k.setHead(b, 0, k.of(0, 0), first, 0, big)
			k.checkWrong(t, b, big, api.ErrForm, 0)
		}
		k.checkWrong(t, make([]byte, k.size()), big, api.ErrForm, 0)
		k.checkWrong(t, make([]byte, k.size()-1), big, api.ErrShort, 0)
	})
}

// TestP13_2HowManySaid says there to be fewer parts than there are (then the last one has a next one), and more.
func TestP13_2HowManySaid(t *testing.T) {
	each(t, func(t *testing.T, k kind, big bool) {
		const n = 5
		front := k.size() + 2*k.partSize()
		for said := 1; said < 300; said++ {
			b := k.reference(k.several(2, n, 1), big)
			set(b, front+k.countAt(), 2, uint64(said), big)
			switch last := front + k.size() + (min(said, n)-1)*k.partSize(); {
			case said == n:
				k.checkGot(t, b, big, k.several(2, n, 1))
			default:
				k.checkWrong(t, b, big, api.ErrForm, last)
			}
		}
	})
}

// TestP13_2First says the first part to stand at each place up to the bytes' end, and behind it.
func TestP13_2First(t *testing.T) {
	each(t, func(t *testing.T, k kind, big bool) {
		front := k.several(2)
		l := k.several(2, 1)
		at := len(k.reference(front, big))
		for _, behind := range []int{0, 1, k.partSize(), 40} {
			b := append(k.reference(l, big), make([]byte, behind)...)
			for first := range len(b) - at + 60 {
				set(b, at+k.firstAt(), 4, uint64(first), big)
				switch {
				case first < k.size():
					k.checkWrong(t, b, big, api.ErrForm, at)
				case at+first+k.partSize() > len(b):
					k.checkWrong(t, b, big, api.ErrShort, min(at+first, len(b)))
				default:
					k.checkAll(t, b, big)
				}
			}
			set(b, at+k.firstAt(), 4, uint64(k.size()), big)
			k.checkGot(t, b, big, l)
		}
	})
}

// TestP13_2FirstAllSmall says it of all three, alone: just below what one has, and just so many.
func TestP13_2FirstAllSmall(t *testing.T) {
	each(t, func(t *testing.T, k kind, big bool) {
		// What overlaps may be read as a part, so that only where it stands is wrong.
		b := make([]byte, 60)
		for first := range 40 {
			k.setHead(b, 0, k.of(0, 1), first, 0, big)
			if first < k.size() {
				k.checkWrong(t, b, big, api.ErrForm, 0)
			} else {
				l, err := k.all(b, big)
				if err != nil || len(l) != 1 || len(l[0].parts) != 1 {
					t.Errorf("first at %d: %v, %v", first, l, err)
				}
			}
		}
	})
}

// TestP13_2NextPart says a part with more behind it to have its next one at each place up to the bytes' end, and behind it.
func TestP13_2NextPart(t *testing.T) {
	each(t, func(t *testing.T, k kind, big bool) {
		l := k.several(1, 3)
		front := k.size() + k.partSize()
		for part := range 2 {
			b := k.reference(l, big)
			at := front + k.size() + part*k.partSize()
			for off := range len(b) - at + 60 {
				set(b, at+k.partNextAt(), 4, uint64(off), big)
				switch {
				case off < k.partSize():
					k.checkWrong(t, b, big, api.ErrForm, at)
				case at+off+k.partSize() > len(b):
					k.checkWrong(t, b, big, api.ErrShort, min(at+off, len(b)))
				case off == k.partSize():
					k.checkGot(t, b, big, l)
				default:
					k.checkAll(t, b, big)
				}
			}
		}
	})
}

// TestP13_2NextPartOverlaps says parts' next ones to be just so far off that they overlap, with bytes that would do else.
func TestP13_2NextPartOverlaps(t *testing.T) {
	each(t, func(t *testing.T, k kind, big bool) {
		b := make([]byte, k.size()+100)
		for off := range 2 * k.partSize() {
			clear(b)
			k.setHead(b, 0, k.of(0, 2), k.size(), 0, big)
			set(b, k.size()+k.partNextAt(), 4, uint64(off), big)
			if off < k.partSize() {
				k.checkWrong(t, b, big, api.ErrForm, k.size())
			} else if l, err := k.all(b, big); err != nil || len(l) != 1 || len(l[0].parts) != 2 {
				t.Errorf("next at %d: %v, %v", off, l, err)
			}
		}
	})
}

// TestP13_2LastPart says the last part to have a next one, wherever it is.
func TestP13_2LastPart(t *testing.T) {
	each(t, func(t *testing.T, k kind, big bool) {
		values := []uint64{most, most - 1, 1 << 31, 1 << 16, 1 << 24, 256}
		for v := uint64(1); v < 80; v++ {
			values = append(values, v)
		}
		for _, parts := range []int{1, 2, 3} {
			l := k.several(parts, 2)
			second := k.size() + parts*k.partSize()
			for _, v := range values {
				for _, at := range []int{second - k.partSize(), second + k.size() + k.partSize()} {
					b := k.reference(l, big)
					set(b, at+k.partNextAt(), 4, v, big)
					k.checkWrong(t, b, big, api.ErrForm, at)
					k.checkWrong(t, append(b, make([]byte, 100)...), big, api.ErrForm, at)
				}
			}
		}
	})
}

// TestP13_2Next says the next one to stand at each place up to the bytes' end, and behind it; 0 ends the chain.
func TestP13_2Next(t *testing.T) {
	each(t, func(t *testing.T, k kind, big bool) {
		l := k.several(1, 2, 1)
		at := k.size() + k.partSize()
		b := k.reference(l, big)
		for next := range len(b) - at + 60 {
			set(b, at+k.nextAt(), 4, uint64(next), big)
			switch {
			case next == 0:
				k.checkGot(t, b, big, l[:2])
			case next < k.size():
				k.checkWrong(t, b, big, api.ErrForm, at)
			case at+next+k.size() > len(b):
				k.checkWrong(t, b, big, api.ErrShort, min(at+next, len(b)))
			default:
				k.checkAll(t, b, big)
			}
		}
	})
}

// TestP13_2NextJustBehind lets the next one stand right behind one, ahead of the parts of both.
func TestP13_2NextJustBehind(t *testing.T) {
	each(t, func(t *testing.T, k kind, big bool) {
		l := k.several(1, 1)
		b := make([]byte, 2*k.size()+2*k.partSize())
		k.setHead(b, 0, l[0], 2*k.size(), k.size(), big)
		k.setHead(b, k.size(), l[1], k.size()+k.partSize(), 0, big)
		k.setPart(b, 2*k.size(), l[0].parts[0], 0, big)
		k.setPart(b, 2*k.size()+k.partSize(), l[1].parts[0], 0, big)
		k.checkGot(t, b, big, l)
		for next := 1; next < k.size(); next++ {
			set(b, k.nextAt(), 4, uint64(next), big)
			k.checkWrong(t, b, big, api.ErrForm, 0)
		}
		set(b, k.nextAt(), 4, 0, big)
		k.checkGot(t, b, big, l[:1])
		for next := 1; next < k.size(); next++ {
			set(b, k.size()+k.nextAt(), 4, uint64(next), big)
			set(b, k.nextAt(), 4, uint64(k.size()), big)
			k.checkWrong(t, b, big, api.ErrForm, k.size())
		}
	})
}

// greatest tells places beyond any bytes' end, such that a sum of 32 bits with them wraps round, too.
func greatest() []uint64 {
	l := []uint64{1 << 16, 1 << 24, 1<<31 - 1, 1<<31 - 20, 1 << 31, 1<<31 + 16}
	for v := most - 150; v <= most; v++ {
		l = append(l, v)
	}
	return l
}

// TestP13_2Beyond takes them for each kind of place: At is how many bytes there are.
func TestP13_2Beyond(t *testing.T) {
	each(t, func(t *testing.T, k kind, big bool) {
		second := k.size() + 2*k.partSize()
		for _, at := range []int{
			k.firstAt(), k.nextAt(), k.size() + k.partNextAt(),
			second + k.firstAt(), second + k.nextAt(), second + k.size() + k.partNextAt(),
		} {
			for _, v := range greatest() {
				b := k.reference(k.several(2, 2), big)
				set(b, at, 4, v, big)
				k.checkWrong(t, b, big, api.ErrShort, len(b))
				b = append(b, 0)
				k.checkWrong(t, b, big, api.ErrShort, len(b))
			}
		}
	})
}

// TestR1PartsAheadOfTheNext holds that what is wrong with parts is told, where the next one's place is wrong, too.
func TestR1PartsAheadOfTheNext(t *testing.T) {
	each(t, func(t *testing.T, k kind, big bool) {
		for _, next := range []uint64{1, uint64(k.size() - 1), uint64(k.size()), 300, most} {
			b := k.reference(k.several(2, 1), big)
			set(b, k.nextAt(), 4, next, big)

			far := slices.Clone(b)
			set(far, k.firstAt(), 4, 200, big)
			k.checkWrong(t, far, big, api.ErrShort, len(b))

			cut := b[:k.size()+k.partSize()+1]
			k.checkWrong(t, cut, big, api.ErrShort, k.size()+k.partSize())

			small := slices.Clone(b)
			set(small, k.size()+k.partNextAt(), 4, uint64(k.partSize()-1), big)
			k.checkWrong(t, small, big, api.ErrForm, k.size())

			more := slices.Clone(b)
			set(more, k.size()+k.partSize()+k.partNextAt(), 4, 8, big)
			k.checkWrong(t, more, big, api.ErrForm, k.size()+k.partSize())
		}
	})
}

// TestR1OwnAheadOfParts holds that what one begins with is told, where its parts are wrong, or aren't whole, too.
func TestR1OwnAheadOfParts(t *testing.T) {
	each(t, func(t *testing.T, k kind, big bool) {
		spoil := []func(b []byte){
			func(b []byte) { set(b, 0, 2, 2, big) },
			func(b []byte) { set(b, k.countAt(), 2, 0, big) },
			func(b []byte) { set(b, k.firstAt(), 4, uint64(k.size()-1), big) },
		}
		whole := k.reference(k.several(2, 1), big)
		for _, f := range spoil {
			for have := k.size(); have <= len(whole); have++ {
				for _, next := range []uint64{0, 1, uint64(k.size()), most} {
					b := slices.Clone(whole[:have])
					f(b)
					set(b, k.nextAt(), 4, next, big)
					k.checkWrong(t, b, big, api.ErrForm, 0)
				}
			}
		}
		for first := range 2 {
			b := slices.Clone(whole)
			spoil[first](b)
			set(b, k.firstAt(), 4, most, big)
			k.checkWrong(t, b, big, api.ErrForm, 0)
		}
	})
}

// TestR1ShortAheadOfForm holds that of what isn't whole nothing else is told.
func TestR1ShortAheadOfForm(t *testing.T) {
	each(t, func(t *testing.T, k kind, big bool) {
		front := k.reference(k.several(1, 1), big)[:k.size()+k.partSize()]
		for n := range k.size() {
			for _, v := range []byte{0, 1, 255} {
				b := slices.Concat(front, bytes.Repeat([]byte{v}, n))
				k.checkWrong(t, b, big, api.ErrShort, len(front))
			}
		}
		for n := range k.partSize() {
			for _, v := range []byte{0, 1, 255} {
				b := slices.Concat(front[:k.size()], bytes.Repeat([]byte{v}, n))
				k.checkWrong(t, b, big, api.ErrShort, k.size())
			}
		}
	})
}

// TestR1FromTheFront holds that of two that are wrong the first one of the chain is told, whatever is wrong with it.
func TestR1FromTheFront(t *testing.T) {
	each(t, func(t *testing.T, k kind, big bool) {
		second := k.size() + 3*k.partSize()
		part := k.partSize()
		// Each in the sequence in which it is looked at.
		faults := []struct {
			place, width int
			v            uint64
			code         api.Code
			at           int
		}{
			{0, 2, 2, api.ErrForm, 0},
			{k.size() + k.partNextAt(), 4, 1, api.ErrForm, k.size()},
			{k.size() + part + k.partNextAt(), 4, most, api.ErrShort, -1},
			{k.size() + 2*part + k.partNextAt(), 4, 8, api.ErrForm, k.size() + 2*part},
			{k.nextAt(), 4, 1, api.ErrForm, 0},
			{second + k.countAt(), 2, 0, api.ErrForm, second},
			{second + k.size() + k.partNextAt(), 4, 0, api.ErrForm, second + k.size()},
			{second + k.nextAt(), 4, most, api.ErrShort, -1},
		}
		for choice := 1; choice < 1<<len(faults); choice++ {
			b := k.reference(k.several(3, 2, 1), big)
			first := -1
			for i, f := range faults {
				if choice>>i&1 == 0 {
					continue
				}
				set(b, f.place, f.width, f.v, big)
				if first < 0 {
					first = i
				}
			}
			at := faults[first].at
			if at < 0 {
				at = len(b)
			}
			k.checkWrong(t, b, big, faults[first].code, at)
		}
	})
}

// TestP13_2EachByteAlone reads each byte of three as all of 0 to 255.
func TestP13_2EachByteAlone(t *testing.T) {
	each(t, func(t *testing.T, k kind, big bool) {
		for _, g := range []gaps{{}, {3, 2, 1}} {
			b := append(k.laid(k.several(2, 1, 3), g, big), make([]byte, 40)...)
			for i, was := range b {
				for v := range 256 {
					b[i] = byte(v)
					k.checkAll(t, b, big)
				}
				b[i] = was
			}
		}
	})
}

// TestP13_2SmallBytes reads many bytes in which small numbers stand, against the reference.
func TestP13_2SmallBytes(t *testing.T) {
	each(t, func(t *testing.T, k kind, big bool) {
		v := uint32(1)
		some := func(n uint32) uint32 {
			v = v*1664525 + 1013904223
			return v >> 8 % n
		}
		told := map[api.Code]int{}
		for range 60000 {
			b := make([]byte, some(140))
			for at := 0; at+4 <= len(b); at += 4 {
				set(b, at, 4, uint64([]uint32{0, 0, 8, 16, 20, 36, some(40), some(160)}[some(8)]), big)
			}
			for at := 0; at+k.size() <= len(b) && some(8) != 0; at += k.size() {
				set(b, at, 2, 1, big)
				set(b, at+k.countAt(), 2, uint64(1+some(3)), big)
			}
			k.checkAll(t, b, big)
			_, code, _ := k.told(b, big)
			told[code]++
		}
		for _, code := range []api.Code{0, api.ErrShort, api.ErrForm} {
			if told[code] < 100 {
				t.Errorf("%v was told %d times", code, told[code])
			}
		}
	})
}

// TestP13_4Got puts lists of up to four, each with up to three parts, and gets them with other bytes behind, too.
func TestP13_4Got(t *testing.T) {
	each(t, func(t *testing.T, k kind, big bool) {
		for n := range 5 {
			for choice := range int(math.Pow(3, float64(n))) {
				var counts []int
				for range n {
					counts = append(counts, 1+choice%3)
					choice /= 3
				}
				k.checkPut(t, k.several(counts...), big)
			}
		}
	})
}

// partsOf tells only how many parts each has, since those that are read may be very many.
func (k kind) partsOf(b []byte, big bool) ([]int, error) {
	var l []int
	if k.count == 3 {
		x, err := ver.Defs(b, big)
		for _, d := range x {
			l = append(l, len(d.Names))
		}
		return l, err
	}
	x, err := ver.Needs(b, big)
	for _, d := range x {
		l = append(l, len(d.Auxs))
	}
	return l, err
}

// TestP13_4Ends reads as long chains as a file may have, each one's parts being all those behind it.
func TestP13_4Ends(t *testing.T) {
	each(t, func(t *testing.T, k kind, big bool) {
		n := api.MaxFile/k.size() - 1
		b := k.crossed(n, big)
		var want []int
		for i := range n {
			want = append(want, max(n-1-i, 1))
		}
		if l, err := k.partsOf(b, big); err != nil || !slices.Equal(l, want) {
			t.Errorf("%s, %v", short(l), err)
		}
		set(b, (n-1)*k.size()+k.nextAt(), 4, 8, big)
		k.checkWrong(t, b, big, api.ErrForm, (n-1)*k.size()+k.size()-k.partSize())
	})
}

// TestP13_4EndsOfOneValue reads bytes that are all alike, and numbers that are.
func TestP13_4EndsOfOneValue(t *testing.T) {
	each(t, func(t *testing.T, k kind, big bool) {
		for v := range 256 {
			for _, n := range []int{1, k.size(), 100, 5000} {
				k.checkAll(t, bytes.Repeat([]byte{byte(v)}, n), big)
			}
		}
		for v := range uint64(70) {
			for width := 2; width < 5; width += 2 {
				b := make([]byte, 400)
				for at := 0; at < len(b); at += width {
					set(b, at, width, v, big)
				}
				k.checkAll(t, b, big)
			}
		}
	})
}

// TestR2Unchanged holds that nothing that is handed in is changed, whether it may be or not.
func TestR2Unchanged(t *testing.T) {
	for _, big := range []bool{false, true} {
		defs, needs := append(handDefs(), api.Def{Names: make([]uint32, 0, 3)}), append(handNeeds(), api.Need{})
		for n := range 4 {
			ver.PutDefs(defs[:n], big)
			ver.PutNeeds(needs[:n], big)
		}
		if !slices.EqualFunc(defs[:2], handDefs(), sameDef) || !slices.EqualFunc(needs[:2], handNeeds(), sameNeed) {
			t.Errorf("changed: %v, %v", defs, needs)
		}
		if !slices.Equal(defs[2].Names[:3], []uint32{0, 0, 0}) {
			t.Errorf("changed behind its end: %v", defs[2].Names[:3])
		}
	}
	each(t, func(t *testing.T, k kind, big bool) {
		whole := k.reference(k.several(2, 1, 3), big)
		for have := range len(whole) + 1 {
			b := slices.Clone(whole)
			k.all(b[:have], big)
			if !bytes.Equal(b, whole) {
				t.Errorf("changed: %v", b)
			}
		}
	})
}

// TestR2NewMemory spoils what was handed in, and what was told.
func TestR2NewMemory(t *testing.T) {
	each(t, func(t *testing.T, k kind, big bool) {
		l := k.several(2, 1, 3)
		b, _ := k.put(l, big)
		x, _ := k.all(b, big)
		for i := range b {
			b[i] = hold
		}
		if !slices.EqualFunc(x, l, alike) {
			t.Errorf("spoilt: %v", x)
		}
		if c, err := k.put(l, big); err != nil || !bytes.Equal(c, k.reference(l, big)) {
			t.Errorf("spoilt: %v, %v", c, err)
		}
	})
}

// TestP13_3Defs spoils what was told once, behind its end, too, and what was handed in.
func TestP13_3Defs(t *testing.T) {
	for _, big := range []bool{false, true} {
		in := handDefs()
		b, _ := ver.PutDefs(in, big)
		in[0].Names[0] = hold
		if !bytes.Equal(b, defsByHand[big]) {
			t.Errorf("PutDefs keeps what was handed in: %v", b)
		}
		one, _ := ver.Defs(b, big)
		two, _ := ver.Defs(b, big)
		for i := range one {
			names := one[i].Names[:cap(one[i].Names)]
			for k := range names {
				names[k] = hold
			}
			one[i].Flags, one[i].Names = hold, nil
		}
		clear(b)
		if !slices.EqualFunc(two, handDefs(), sameDef) {
			t.Errorf("Defs shares memory: %v", two)
		}
		one, _ = ver.Defs(defsByHand[big], big)
		names := one[0].Names[:cap(one[0].Names)]
		for k := range names {
			names[k] = hold
		}
		if !sameDef(one[1], handDefs()[1]) {
			t.Errorf("two lists share memory: %v", one)
		}
	}
}

// TestP13_3Needs spoils what was told once, behind its end, too, and what was handed in.
func TestP13_3Needs(t *testing.T) {
	for _, big := range []bool{false, true} {
		in := handNeeds()
		b, _ := ver.PutNeeds(in, big)
		in[0].Auxs[0].Hash = hold
		if !bytes.Equal(b, needsByHand[big]) {
			t.Errorf("PutNeeds keeps what was handed in: %v", b)
		}
		one, _ := ver.Needs(b, big)
		two, _ := ver.Needs(b, big)
		for i := range one {
			auxs := one[i].Auxs[:cap(one[i].Auxs)]
			for k := range auxs {
				auxs[k] = api.Aux{Hash: hold}
			}
			one[i].File, one[i].Auxs = hold, nil
		}
		clear(b)
		if !slices.EqualFunc(two, handNeeds(), sameNeed) {
			t.Errorf("Needs shares memory: %v", two)
		}
		one, _ = ver.Needs(needsByHand[big], big)
		auxs := one[0].Auxs[:cap(one[0].Auxs)]
		for k := range auxs {
			auxs[k] = api.Aux{Hash: hold}
		}
		if !sameNeed(one[1], handNeeds()[1]) {
			t.Errorf("two lists share memory: %v", one)
		}
	}
}

// TestP13_3SameParts holds that two whose chains run through the same bytes have memory of their own.
func TestP13_3SameParts(t *testing.T) {
	each(t, func(t *testing.T, k kind, big bool) {
		b := make([]byte, 2*k.size()+k.partSize())
		e := k.of(0, 1)
		k.setHead(b, 0, e, 2*k.size(), k.size(), big)
		k.setHead(b, k.size(), e, k.size(), 0, big)
		k.setPart(b, 2*k.size(), e.parts[0], 0, big)
		k.checkGot(t, b, big, []entry{e, e})
		if k.count == 3 {
			l, _ := ver.Defs(b, big)
			l[0].Names[0]++
			if l[1].Names[0] != uint32(e.parts[0][0]) {
				t.Errorf("shared: %v", l)
			}
		} else {
			l, _ := ver.Needs(b, big)
			l[0].Auxs[0].Hash++
			if l[1].Auxs[0].Hash != uint32(e.parts[0][0]) {
				t.Errorf("shared: %v", l)
			}
		}
	})
}

// TestR3NilBesideErrors holds that beside an error nothing at all is told.
func TestR3NilBesideErrors(t *testing.T) {
	for _, big := range []bool{false, true} {
		if b, err := ver.PutDefs(append(handDefs(), api.Def{}), big); err == nil || b != nil {
			t.Errorf("PutDefs: %v, %v", b, err)
		}
		if b, err := ver.PutNeeds(append(handNeeds(), api.Need{}), big); err == nil || b != nil {
			t.Errorf("PutNeeds: %v, %v", b, err)
		}
		for have := 1; have < 64; have++ {
			if l, err := ver.Defs(defsByHand[big][:have], big); err == nil || l != nil {
				t.Errorf("Defs: %v, %v", l, err)
			}
		}
		for have := 1; have < 80; have++ {
			if l, err := ver.Needs(needsByHand[big][:have], big); err == nil || l != nil {
				t.Errorf("Needs: %v, %v", l, err)
			}
		}
	}
}

// TestP1Noise reads bytes that mean nothing, at each length.
func TestP1Noise(t *testing.T) {
	each(t, func(t *testing.T, k kind, big bool) {
		b := make([]byte, 600)
		v := uint32(7)
		for i := range b {
			v = v*1664525 + 1013904223
			b[i] = byte(v >> 24)
		}
		for have := range len(b) {
			k.checkAll(t, b[:have], big)
			set(b, 0, 2, 1, big)
			k.checkAll(t, b[have:], big)
		}
	})
}

// FuzzP1NeverPanics holds what is told of any bytes against the reference; what is got, is put, and got again.
func FuzzP1NeverPanics(f *testing.F) {
	for _, big := range []bool{false, true} {
		for _, k := range kinds() {
			f.Add(k.reference(k.several(2, 1), big), big)
			f.Add(k.laid(k.several(1, 3, 1), gaps{1, 2, 3}, big), big)
			f.Add(k.crossed(4, big), big)
		}
		f.Add([]byte{}, big)
	}
	f.Fuzz(func(t *testing.T, b []byte, big bool) {
		for _, k := range kinds() {
			k.checkAll(t, b, big)
			if l, code, _ := k.told(b, big); code == 0 {
				k.checkPut(t, l, big)
			}
		}
	})
}
