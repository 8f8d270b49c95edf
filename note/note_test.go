package note_test

import (
	"bytes"
	"encoding/binary"
	"errors"
	"fmt"
	"math"
	"slices"
	"testing"

	"bezant/api"
	"bezant/note"
)

const most uint32 = math.MaxUint32

// hold is what spoils memory, and what lies around bytes.
const hold = 0xee

// numbers is how many bytes a note has ahead of Name.
const numbers = 12

var forms = []api.Form{{}, {Big: true}, {Wide: true}, {Wide: true, Big: true}}

// numberOf tells the number of four bytes by the library.
func numberOf(b []byte, f api.Form) uint32 {
	if f.Big {
		return binary.BigEndian.Uint32(b)
	}
	return binary.LittleEndian.Uint32(b)
}

// bytesOf tells the bytes of numbers of four bytes by the library.
func bytesOf(f api.Form, l ...uint32) []byte {
	var b []byte
	for _, v := range l {
		if f.Big {
			b = binary.BigEndian.AppendUint32(b, v)
		} else {
			b = binary.LittleEndian.AppendUint32(b, v)
		}
	}
	return b
}

// fills tells how many bytes fill up so many.
func fills(n int) int { return []int{0, 3, 2, 1}[n%4] }

// sizeOf tells how many bytes a note has.
func sizeOf(n api.Note) int {
	return numbers + len(n.Name) + fills(len(n.Name)) + len(n.Desc) + fills(len(n.Desc))
}

// reference tells notes' bytes.
func reference(l []api.Note, f api.Form) []byte {
	var b []byte
	for _, n := range l {
		b = append(b, bytesOf(f, uint32(len(n.Name)), uint32(len(n.Desc)), n.Type)...)
		for _, part := range [][]byte{n.Name, n.Desc} {
			b = append(b, part...)
			b = append(b, make([]byte, fills(len(part)))...)
		}
	}
	return b
}

// cut tells so many bytes, those that fill them up, and the rest, if all of them are there.
func cut(b []byte, n uint32) (part, fill, rest []byte, ok bool) {
	k := int64(n) + int64(fills(int(n%4)))
	if k > int64(len(b)) {
		return nil, nil, nil, false
	}
	return b[:n], b[n:k], b[k:], true
}

// told tells all notes, or the error's code and its place.
func told(b []byte, f api.Form) ([]api.Note, api.Code, int) {
	var l []api.Note
	for rest := b; len(rest) != 0; {
		at := len(b) - len(rest)
		if len(rest) < numbers {
			return nil, api.ErrShort, at
		}
		head := rest[:numbers]
		name, one, behind, nameThere := cut(rest[numbers:], numberOf(head, f))
		desc, other, behind, descThere := cut(behind, numberOf(head[4:], f))
		if !nameThere || !descThere {
			return nil, api.ErrShort, at
		}
		if string(one)+string(other) != string(make([]byte, len(one)+len(other))) {
			return nil, api.ErrForm, at
		}
		l = append(l, api.Note{Name: name, Desc: desc, Type: numberOf(head[8:], f)})
		rest = behind
	}
	return l, 0, 0
}

// alike tells whether two notes are the same, where nil and empty are.
func alike(a, b api.Note) bool {
	return bytes.Equal(a.Name, b.Name) && bytes.Equal(a.Desc, b.Desc) && a.Type == b.Type
}

// cloned tells the same notes, in memory of their own.
func cloned(l []api.Note) []api.Note {
	x := slices.Clone(l)
	for i := range x {
		x[i].Name, x[i].Desc = bytes.Clone(x[i].Name), bytes.Clone(x[i].Desc)
	}
	return x
}

// noise tells so many bytes that mean nothing, the same ones each time; some of them are 0.
func noise(n int) []byte {
	b := make([]byte, n)
	v := uint32(1)
	for i := range b {
		v = v*1664525 + 1013904223
		b[i] = byte(v >> 24)
	}
	return b
}

// bytesFrom tells so many bytes, each another one, none of them 0.
func bytesFrom(first, n int) []byte {
	b := make([]byte, n)
	for i := range b {
		b[i] = byte(1 + (first+i)%255)
	}
	return b
}

// of tells a note of so many bytes, none of them 0.
func of(name, desc int) api.Note {
	return api.Note{Name: bytesFrom(0, name), Desc: bytesFrom(99, desc), Type: 0xa1a2a3a4}
}

// several tells notes that are all other ones, with each count of bytes that fill up.
func several(n int) []api.Note {
	l := make([]api.Note, n)
	for i := range l {
		l[i] = api.Note{Name: bytesFrom(i, i%7), Desc: bytesFrom(i*3, i*5%11), Type: most - uint32(i)<<8}
	}
	return l
}

// short tells a text of no great length, since bytes may be very many.
func short(v any) string {
	s := fmt.Sprint(v)
	if len(s) > 400 {
		return s[:400] + "..."
	}
	return s
}

// checkPut holds Put against the reference, and what it tells against All: P11.3.
func checkPut(t *testing.T, l []api.Note, f api.Form) {
	t.Helper()
	b := note.Put(l, f)
	if !bytes.Equal(b, reference(l, f)) {
		t.Errorf("Put(%s, %v) = %s, not %s", short(l), f, short(b), short(reference(l, f)))
		return
	}
	checkGot(t, b, f, l)
}

// checkGot holds what All tells against notes told by hand; what is got, put, is those bytes: P11.3.
func checkGot(t *testing.T, b []byte, f api.Form, want []api.Note) {
	t.Helper()
	l, err := note.All(b, f)
	if err != nil || !slices.EqualFunc(l, want, alike) {
		t.Errorf("All(%s, %v) = %s, %v, not %s", short(b), f, short(l), err, short(want))
		return
	}
	if c := note.Put(l, f); !bytes.Equal(c, b) {
		t.Errorf("P11.3: %s of %v, put, is %s, not %s", short(l), f, short(c), short(b))
	}
}

// checkWrong holds the error, that it is a pointer to a Spot, its place, and R3.
func checkWrong(t *testing.T, b []byte, f api.Form, code api.Code, at int) {
	t.Helper()
	l, err := note.All(b, f)
	spot, ok := err.(*api.Spot)
	if !ok || spot == nil || *spot != (api.Spot{At: at, Code: code}) || len(l) != 0 {
		t.Errorf("All(%s, %v) = %s, %v, not %v at %d", short(b), f, short(l), err, code, at)
	}
}

// checkAll holds All against the reference.
func checkAll(t *testing.T, b []byte, f api.Form) {
	t.Helper()
	if l, code, at := told(b, f); code != 0 {
		checkWrong(t, b, f, code, at)
	} else {
		checkGot(t, b, f, l)
	}
}

// byHand holds the bytes themselves, so that the reference isn't all that holds them.
var byHand = map[bool][]byte{
	false: {
		4, 0, 0, 0, 5, 0, 0, 0, 0xa4, 0xa3, 0xa2, 0xa1, 'G', 'N', 'U', 0, 1, 2, 3, 4, 5, 0, 0, 0,
		3, 0, 0, 0, 2, 0, 0, 0, 1, 0, 0, 0, 'a', 'b', 'c', 0, 8, 9, 0, 0,
	},
	true: {
		0, 0, 0, 4, 0, 0, 0, 5, 0xa1, 0xa2, 0xa3, 0xa4, 'G', 'N', 'U', 0, 1, 2, 3, 4, 5, 0, 0, 0,
		0, 0, 0, 3, 0, 0, 0, 2, 0, 0, 0, 1, 'a', 'b', 'c', 0, 8, 9, 0, 0,
	},
}

func TestP11_1ByHand(t *testing.T) {
	l := []api.Note{
		{Name: []byte("GNU\x00"), Desc: []byte{1, 2, 3, 4, 5}, Type: 0xa1a2a3a4},
		{Name: []byte("abc"), Desc: []byte{8, 9}, Type: 1},
	}
	for _, f := range forms {
		b := byHand[f.Big]
		if c := note.Put(l, f); !bytes.Equal(c, b) {
			t.Errorf("Put of %v = %v", f, c)
		}
		checkGot(t, b, f, l)
		checkGot(t, b[:24], f, l[:1])
		checkGot(t, b[24:], f, l[1:])
	}
}

// TestP11_1Example is the chapter's: a Name "a" without Desc has 16 bytes.
func TestP11_1Example(t *testing.T) {
	want := map[bool][]byte{
		false: {1, 0, 0, 0, 0, 0, 0, 0, 0, 0, 0, 0, 'a', 0, 0, 0},
		true:  {0, 0, 0, 1, 0, 0, 0, 0, 0, 0, 0, 0, 'a', 0, 0, 0},
	}
	for _, f := range forms {
		for _, desc := range [][]byte{nil, {}} {
			l := []api.Note{{Name: []byte("a"), Desc: desc}}
			if b := note.Put(l, f); !bytes.Equal(b, want[f.Big]) {
				t.Errorf("Put of %v = %v", f, b)
			}
			checkGot(t, want[f.Big], f, l)
		}
	}
}

func TestP11_1None(t *testing.T) {
	for _, f := range forms {
		for _, l := range [][]api.Note{nil, {}, several(3)[2:2]} {
			if b := note.Put(l, f); len(b) != 0 {
				t.Errorf("Put of none, %v = %v", f, b)
			}
		}
		for _, b := range [][]byte{nil, {}, noise(9)[4:4]} {
			checkGot(t, b, f, nil)
		}
	}
}

// TestP11_1BothClasses holds that a note has the same bytes in both classes, and that each reads the other one's.
func TestP11_1BothClasses(t *testing.T) {
	l := several(30)
	for _, big := range []bool{false, true} {
		narrow, wide := api.Form{Big: big}, api.Form{Wide: true, Big: big}
		b := note.Put(l, narrow)
		if c := note.Put(l, wide); !bytes.Equal(b, c) {
			t.Errorf("32 bits: %v, 64 bits: %v", b, c)
		}
		checkGot(t, b, narrow, l)
		checkGot(t, b, wide, l)
	}
}

// TestP11_1EachWithEach takes each count of bytes of Name with each of Desc, and so each count of bytes that fill up.
func TestP11_1EachWithEach(t *testing.T) {
	filled := []int{0, 4, 4, 4, 4, 8, 8, 8, 8, 12}
	for _, f := range forms {
		for name := range filled {
			for desc := range filled {
				n := of(name, desc)
				b := note.Put([]api.Note{n}, f)
				if len(b) != 12+filled[name]+filled[desc] {
					t.Errorf("Put of %d and %d, %v, has %d bytes", name, desc, f, len(b))
				}
				checkPut(t, []api.Note{n}, f)
				checkPut(t, []api.Note{n, n}, f)
				checkPut(t, append(several(3), n), f)
				checkPut(t, append([]api.Note{n}, several(3)...), f)
			}
		}
	}
}

// TestP11_1Type sets Type to 0, to the greatest one, to each power of two, and to those next to it.
func TestP11_1Type(t *testing.T) {
	for _, f := range forms {
		for bit := range 32 {
			for _, v := range []uint32{0, most, 1<<bit - 1, 1 << bit, 1<<bit | 1, most &^ (1 << bit)} {
				for _, n := range []api.Note{{Type: v}, {Name: []byte("a"), Type: v}, {Desc: []byte{7, 8}, Type: v}} {
					b := note.Put([]api.Note{n}, f)
					if !bytes.Equal(b[8:12], bytesOf(f, v)) {
						t.Errorf("Type %d, %v: %v", v, f, b)
					}
					checkPut(t, []api.Note{n}, f)
					checkPut(t, []api.Note{of(3, 5), n, of(1, 0)}, f)
				}
			}
		}
	}
}

// TestP11_1EachByteAlone reads each byte of three notes as all of 0 to 255.
func TestP11_1EachByteAlone(t *testing.T) {
	for _, f := range forms {
		b := reference([]api.Note{of(3, 5), of(1, 0), of(4, 2)}, f)
		for i, was := range b {
			for v := range 256 {
				b[i] = byte(v)
				checkAll(t, b, f)
			}
			b[i] = was
		}
	}
}

// TestP11_1EachValue holds that Name and Desc may have any bytes, 0s at the front, in the middle and at the end, too.
func TestP11_1EachValue(t *testing.T) {
	for _, f := range forms {
		for v := range 256 {
			for n := 1; n < 10; n++ {
				part := bytes.Repeat([]byte{byte(v)}, n)
				checkPut(t, []api.Note{{Name: part}}, f)
				checkPut(t, []api.Note{{Desc: part}}, f)
				checkPut(t, []api.Note{{Name: part, Desc: part}, {Name: part, Desc: []byte{1}}}, f)
			}
		}
		for choice := range 1 << 6 {
			part := make([]byte, 6)
			for i := range part {
				part[i] = byte(choice >> i & 1)
			}
			checkPut(t, []api.Note{{Name: part, Desc: part[1:]}, {Name: part[2:], Desc: part[3:]}}, f)
		}
	}
}

func TestP11_1HowMany(t *testing.T) {
	for _, f := range forms {
		for n := range 41 {
			checkPut(t, several(n), f)
			checkPut(t, make([]api.Note, n), f)
			checkGot(t, make([]byte, numbers*n), f, make([]api.Note, n))
		}
	}
}

func TestP11_1VeryMany(t *testing.T) {
	for _, f := range forms {
		l := several(100000)
		checkPut(t, l, f)
		b := reference(l, f)
		checkWrong(t, b[:len(b)-1], f, api.ErrShort, len(b)-sizeOf(l[len(l)-1]))
		checkPut(t, make([]api.Note, 100000), f)
	}
}

// TestP11_1Long takes lengths that have each of the four bytes.
func TestP11_1Long(t *testing.T) {
	all := noise(0x01020304)
	for _, f := range forms {
		for _, n := range []int{255, 256, 257, 65535, 65536, 65537, 0x010203, 0x01020304} {
			for _, x := range []api.Note{{Name: all[:n], Type: 1}, {Desc: all[:n], Type: 1}, {Name: all[:n], Desc: all[:n-1]}} {
				b := note.Put([]api.Note{x}, f)
				if len(b) != sizeOf(x) || !bytes.Equal(b[:8], bytesOf(f, uint32(len(x.Name)), uint32(len(x.Desc)))) {
					t.Errorf("Put of %d and %d bytes, %v: %d bytes, %v", len(x.Name), len(x.Desc), f, len(b), b[:8])
				}
				l, err := note.All(b, f)
				if err != nil || len(l) != 1 || !alike(l[0], x) {
					t.Errorf("All of %d and %d bytes, %v: %d, %v", len(x.Name), len(x.Desc), f, len(l), err)
				}
				checkWrong(t, b[:len(b)-1], f, api.ErrShort, 0)
			}
		}
	}
}

// TestP11_1EachLength cuts a note off at each length, alone and behind whole ones: At is where it begins.
func TestP11_1EachLength(t *testing.T) {
	for _, f := range forms {
		for name := range 6 {
			for desc := range 6 {
				b := reference([]api.Note{of(name, desc)}, f)
				for ahead := range 4 {
					l := several(ahead)
					front := reference(l, f)
					for have := 1; have < len(b); have++ {
						checkWrong(t, slices.Clip(slices.Concat(front, b[:have])), f, api.ErrShort, len(front))
					}
					checkGot(t, slices.Clip(slices.Concat(front, b)), f, append(l, of(name, desc)))
				}
			}
		}
	}
}

// TestP11_1WhereItEnds tells by hand at which lengths four notes end.
func TestP11_1WhereItEnds(t *testing.T) {
	l := []api.Note{of(0, 0), of(1, 0), of(0, 5), of(3, 4)}
	begins := []int{0, 12, 28, 48}
	for _, f := range forms {
		b := reference(l, f)
		if len(b) != 68 {
			t.Fatal(len(b))
		}
		for have := range len(b) + 1 {
			if i := slices.Index(append(begins, 68), have); i >= 0 {
				checkGot(t, b[:have], f, l[:i])
				continue
			}
			i, _ := slices.BinarySearch(begins, have)
			checkWrong(t, b[:have], f, api.ErrShort, begins[i-1])
		}
	}
}

// TestP11_1LengthNotCapacity holds that bytes behind the end of those handed in aren't read.
func TestP11_1LengthNotCapacity(t *testing.T) {
	for _, f := range forms {
		l := []api.Note{of(2, 3), of(5, 1)}
		b := reference(append(l, several(4)...), f)
		first, second := sizeOf(l[0]), sizeOf(l[1])
		for have := 1; have < first; have++ {
			checkWrong(t, b[:have], f, api.ErrShort, 0)
		}
		checkGot(t, b[:first], f, l[:1])
		for have := first + 1; have < first+second; have++ {
			checkWrong(t, b[:have], f, api.ErrShort, first)
		}
		checkGot(t, b[:first+second], f, l)
	}
}

// tooMany tells lengths of which a few bytes are always short, those with which a sum of 32 bits wraps round, too.
func tooMany() []uint32 {
	all := []uint32{100, 1 << 16, 1 << 24, 1<<31 - 1, 1<<31 - 12, 1 << 31, 1<<31 + 4}
	for v := most - 70; v != 0; v++ {
		all = append(all, v)
	}
	return all
}

// TestP11_1SaidLonger says a Name, a Desc, or both to be longer than what is left, up to the greatest numbers.
func TestP11_1SaidLonger(t *testing.T) {
	for _, f := range forms {
		for _, ahead := range [][]api.Note{nil, {of(1, 0)}, several(3)} {
			front := reference(ahead, f)
			for _, v := range tooMany() {
				for _, behind := range []int{0, 1, 4, 12, 60} {
					for _, said := range [][]byte{
						bytesOf(f, v, 0, 1), bytesOf(f, 0, v, 1), bytesOf(f, v, v, 1),
						bytesOf(f, v, 4, 1), bytesOf(f, 4, v, 1), bytesOf(f, v, 1, 1), bytesOf(f, 1, v, 1),
						bytesOf(f, v, -v, 1), bytesOf(f, -v, v, 1), bytesOf(f, v, most, 1), bytesOf(f, most, v, 1),
					} {
						checkWrong(t, slices.Concat(front, said, make([]byte, behind)), f, api.ErrShort, len(front))
						checkWrong(t, slices.Concat(front, said, bytesFrom(0, behind)), f, api.ErrShort, len(front))
					}
				}
			}
		}
	}
}

// TestP11_1SaidLongerByFew says lengths from 0 to beyond what is left, with 0s there, so that nothing else is wrong.
func TestP11_1SaidLongerByFew(t *testing.T) {
	for _, f := range forms {
		for left := range 25 {
			for name := range 30 {
				for desc := range 30 {
					b := append(bytesOf(f, uint32(name), uint32(desc), 5), make([]byte, left)...)
					need := name + fills(name) + desc + fills(desc)
					want := api.Note{Name: make([]byte, name), Desc: make([]byte, desc), Type: 5}
					switch over := left - need; {
					case over < 0:
						checkWrong(t, b, f, api.ErrShort, 0)
					case over%numbers == 0:
						checkGot(t, b, f, append([]api.Note{want}, make([]api.Note, over/numbers)...))
					default:
						checkWrong(t, b, f, api.ErrShort, len(b)-over%numbers)
					}
				}
			}
		}
	}
}

// places tells where the bytes that fill up stand in a note.
func places(n api.Note) []int {
	var all []int
	at := numbers
	for _, part := range [][]byte{n.Name, n.Desc} {
		at += len(part)
		for range fills(len(part)) {
			all = append(all, at)
			at++
		}
	}
	return all
}

// TestP11_1FillsUp spoils each byte that fills up, with each value, alone, and with whole notes ahead and behind.
func TestP11_1FillsUp(t *testing.T) {
	for _, f := range forms {
		for name := range 6 {
			for desc := range 6 {
				n := of(name, desc)
				b := reference([]api.Note{n}, f)
				for _, at := range places(n) {
					for v := 1; v < 256; v++ {
						b[at] = byte(v)
						checkWrong(t, b, f, api.ErrForm, 0)
					}
					front, back := reference(several(3), f), reference(several(2), f)
					checkWrong(t, slices.Concat(front, b), f, api.ErrForm, len(front))
					checkWrong(t, slices.Concat(b, back), f, api.ErrForm, 0)
					checkWrong(t, slices.Concat(front, b, back), f, api.ErrForm, len(front))
					b[at] = 0
				}
				checkGot(t, b, f, []api.Note{n})
			}
		}
	}
}

// TestP11_1FillsUpByHand spoils each byte behind the numbers of a note of 20 bytes, which begins at 12.
func TestP11_1FillsUpByHand(t *testing.T) {
	for _, f := range forms {
		for at := 24; at < 32; at++ {
			l := []api.Note{{}, {Name: []byte("a"), Desc: []byte{8, 9}}}
			b := reference(l, f)
			if len(b) != 32 {
				t.Fatal(len(b))
			}
			b[at] = 1
			switch at {
			case 24:
				l[1].Name[0] = 1
				checkGot(t, b, f, l)
			case 28, 29:
				l[1].Desc[at-28] = 1
				checkGot(t, b, f, l)
			default:
				checkWrong(t, b, f, api.ErrForm, 12)
			}
		}
	}
}

// TestR1ShortAheadOfForm holds that of a note that isn't whole nothing else is told, whatever its bytes that fill up are.
func TestR1ShortAheadOfForm(t *testing.T) {
	for _, f := range forms {
		for name := range 6 {
			for desc := range 6 {
				n := of(name, desc)
				for _, at := range places(n) {
					b := reference([]api.Note{n}, f)
					b[at] = 1
					for ahead := range 3 {
						front := reference(several(ahead), f)
						for have := at + 1; have < len(b); have++ {
							checkWrong(t, slices.Concat(front, b[:have]), f, api.ErrShort, len(front))
						}
						checkWrong(t, slices.Concat(front, b), f, api.ErrForm, len(front))
					}
				}
			}
		}
	}
}

// TestR1ShortAheadOfFormAtTheGreatest holds it where Desc is said to be far longer than what is left.
func TestR1ShortAheadOfFormAtTheGreatest(t *testing.T) {
	for _, f := range forms {
		for name := uint32(1); name < 4; name++ {
			for _, desc := range tooMany() {
				for n := 4; n < 40; n++ {
					b := append(bytesOf(f, name, desc, 0), bytes.Repeat([]byte{hold}, n)...)
					checkWrong(t, b, f, api.ErrShort, 0)
				}
			}
		}
	}
}

// TestR1FromTheFront holds that of several notes that are wrong the first one is told, whatever is wrong with it.
func TestR1FromTheFront(t *testing.T) {
	for _, f := range forms {
		bad := reference([]api.Note{of(1, 2)}, f)
		bad[13] = 9
		whole := reference([]api.Note{of(5, 4)}, f)
		cutOff := whole[:len(whole)-1]
		for _, c := range []struct {
			b    []byte
			code api.Code
			at   int
		}{
			{slices.Concat(bad, cutOff), api.ErrForm, 0},
			{slices.Concat(whole, bad, cutOff), api.ErrForm, len(whole)},
			{slices.Concat(bad, bad), api.ErrForm, 0},
			{slices.Concat(bad, whole, bad), api.ErrForm, 0},
			{slices.Concat(bad, []byte{1}), api.ErrForm, 0},
			{slices.Concat(whole, bad, make([]byte, 11)), api.ErrForm, len(whole)},
			{slices.Concat(whole, bad[:len(bad)-1]), api.ErrShort, len(whole)},
			{slices.Concat(bytesOf(f, 200, 0, 0), bad, bad), api.ErrShort, 0},
			{slices.Concat(bytesOf(f, 0, most, 0), bad, bad), api.ErrShort, 0},
		} {
			checkWrong(t, c.b, f, c.code, c.at)
		}
	}
}

// TestErrorsAsTold holds that both are Spots, whose Codes are found too.
func TestErrorsAsTold(t *testing.T) {
	for _, f := range forms {
		_, shortErr := note.All(make([]byte, 23), f)
		_, formErr := note.All(append(bytesOf(f, 1, 0, 0), 1, 0, 1, 0), f)
		for _, c := range []struct {
			err  error
			spot api.Spot
		}{
			{shortErr, api.Spot{At: 12, Code: api.ErrShort}},
			{formErr, api.Spot{At: 0, Code: api.ErrForm}},
		} {
			var spot *api.Spot
			var code api.Code
			if !errors.Is(c.err, c.spot.Code) || !errors.As(c.err, &code) || code != c.spot.Code {
				t.Errorf("%v, not %v", c.err, c.spot.Code)
			}
			if !errors.As(c.err, &spot) || *spot != c.spot {
				t.Errorf("%v, not the Spot %v", c.err, c.spot)
			}
		}
	}
}

// spoil changes all that bytes have room for.
func spoil(b []byte) {
	all := b[:cap(b)]
	for i := range all {
		all[i] = hold
	}
}

func TestP11_2PutTellsNewMemory(t *testing.T) {
	for _, f := range forms {
		l := several(6)
		want := reference(l, f)
		for range 3 {
			b := note.Put(l, f)
			if !bytes.Equal(b, want) {
				t.Error("once the earlier ones are spoilt:", b)
			}
			spoil(b)
		}
		first, second := note.Put(l, f), note.Put(make([]api.Note, 6), f)
		if !bytes.Equal(first, want) || !bytes.Equal(second, make([]byte, 6*numbers)) {
			t.Error("two answers share memory:", first, second)
		}
		if !slices.EqualFunc(l, several(6), alike) {
			t.Error("an answer shares memory with what was handed in:", l)
		}
	}
}

func TestP11_2AllTellsNewMemory(t *testing.T) {
	for _, f := range forms {
		want := several(9)
		b := reference(want, f)
		for range 3 {
			l, err := note.All(b, f)
			if err != nil || !slices.EqualFunc(l, want, alike) {
				t.Errorf("once the earlier ones are spoilt: %v, %v", l, err)
			}
			for _, n := range l {
				spoil(n.Name)
				spoil(n.Desc)
			}
			all := l[:cap(l)]
			for i := range all {
				all[i] = api.Note{Name: []byte{hold}, Desc: []byte{hold}, Type: hold}
			}
			if !bytes.Equal(b, reference(want, f)) {
				t.Error("an answer shares memory with what was handed in:", b)
			}
		}
	}
}

// TestP11_2NoTwoShareMemory spoils one part of what is told, and the room behind it: no other part is changed.
func TestP11_2NoTwoShareMemory(t *testing.T) {
	for _, f := range forms {
		want := []api.Note{of(4, 8), of(3, 5), of(8, 4), of(0, 4), of(4, 0), of(1, 1)}
		b := reference(want, f)
		for i := range want {
			for _, isName := range []bool{true, false} {
				l, err := note.All(b, f)
				other, _ := note.All(b, f)
				if err != nil || len(l) != len(want) {
					t.Fatal(l, err)
				}
				if isName {
					spoil(l[i].Name)
					l[i].Name = want[i].Name
				} else {
					spoil(l[i].Desc)
					l[i].Desc = want[i].Desc
				}
				if !slices.EqualFunc(l, want, alike) || !slices.EqualFunc(other, want, alike) {
					t.Errorf("with part %d (%v) spoilt: %v, %v", i, isName, l, other)
				}
			}
		}
	}
}

// TestP11_2AllTellsNewSpots holds that a Spot that is spoilt spoils no later one.
func TestP11_2AllTellsNewSpots(t *testing.T) {
	for _, f := range forms {
		for range 3 {
			_, err := note.All(make([]byte, 3*numbers-1), f)
			var spot *api.Spot
			if !errors.As(err, &spot) || *spot != (api.Spot{At: 2 * numbers, Code: api.ErrShort}) {
				t.Fatalf("%v of %v", err, f)
			}
			*spot = api.Spot{}
		}
		_, first := note.All(make([]byte, 1), f)
		_, second := note.All(make([]byte, numbers+1), f)
		var one, other *api.Spot
		if !errors.As(first, &one) || !errors.As(second, &other) || one.At != 0 || other.At != numbers {
			t.Errorf("two Spots share memory: %v, %v", first, second)
		}
	}
}

// TestR2PutChangesAndKeepsNothing holds it also of the room behind Name and Desc, where the 0s might be laid.
func TestR2PutChangesAndKeepsNothing(t *testing.T) {
	for _, f := range forms {
		around := bytes.Repeat([]byte{hold}, 40)
		copy(around, "abcde")
		copy(around[20:], "fg")
		before := bytes.Clone(around)
		l := []api.Note{{Name: around[:5], Desc: around[20:22], Type: 1}, {Name: around[1:2], Desc: around[:3]}, of(3, 3)}
		was := cloned(l)
		b := note.Put(l[:2], f)
		if !bytes.Equal(around, before) || !slices.EqualFunc(l, was, alike) {
			t.Error("what was handed in is changed:", around, l)
		}
		clear(around)
		clear(l)
		if !bytes.Equal(b, reference(was[:2], f)) {
			t.Error("what was told:", b)
		}
		checkPut(t, l, f)
		checkPut(t, was, f)
	}
}

func TestR2AllChangesAndKeepsNothing(t *testing.T) {
	for _, f := range forms {
		want := several(5)
		b := append(reference(want, f), 1, 2, 3)
		before := bytes.Clone(b)
		for n := range len(b) + 1 {
			note.All(b[:n], f)
		}
		l, err := note.All(b[:len(b)-3], f)
		if !bytes.Equal(b, before) {
			t.Error("what was handed in is changed:", b)
		}
		clear(b)
		if err != nil || !slices.EqualFunc(l, want, alike) {
			t.Error("what was told:", l, err)
		}
		checkAll(t, b, f)
		checkAll(t, before, f)
	}
}

// TestR3 holds that with an error there is nothing beside it, however many whole notes stand ahead.
func TestR3(t *testing.T) {
	for _, f := range forms {
		for n := range 20 {
			front := reference(several(n), f)
			checkWrong(t, append(bytes.Clone(front), 1), f, api.ErrShort, len(front))
			bad := append(bytesOf(f, 1, 0, 0), 1, 0, 0, 1)
			checkWrong(t, append(bytes.Clone(front), bad...), f, api.ErrForm, len(front))
		}
	}
}

// TestP11_3 puts notes of one order, and reads them in all forms: what is got, put, is those bytes.
func TestP11_3(t *testing.T) {
	for n := range 6 {
		l := several(n)
		for _, f := range forms {
			checkPut(t, l, f)
			b := reference(l, f)
			for _, other := range forms {
				checkAll(t, b, other)
			}
		}
	}
}

// TestP11_3Small reads all of some small lengths with bytes behind them that are 0, or not, or each in turn.
func TestP11_3Small(t *testing.T) {
	for _, f := range forms {
		for name := range uint32(9) {
			for desc := range uint32(9) {
				for choice := range 1 << 10 {
					rest := make([]byte, 20)
					for i := range rest {
						rest[i] = byte(choice >> (i % 10) & 1)
					}
					b := append(bytesOf(f, name, desc, 7), rest...)
					checkAll(t, b, f)
					checkAll(t, b[:22], f)
				}
			}
		}
	}
}

// TestP11_3Noise reads many bytes that mean nothing, with lengths in front of them that may be.
func TestP11_3Noise(t *testing.T) {
	b := noise(300)
	for _, f := range forms {
		for from := range 100 {
			for to := from; to <= len(b); to += 37 {
				checkAll(t, b[from:to], f)
				for name := range uint32(to-from) + 2 {
					said := bytesOf(f, name, uint32(to-from)-min(name, uint32(to-from)), 0)
					checkAll(t, append(said, b[from:to]...), f)
				}
			}
		}
	}
}

func FuzzP1AllNeverPanics(f *testing.F) {
	f.Add([]byte{})
	f.Add(noise(17))
	for _, x := range forms {
		f.Add(reference(several(3), x))
		f.Add(append(reference(several(3), x), 1))
		f.Add(append(bytesOf(x, 1, 0, 0), 1, 0, 1, 0))
		f.Add(bytesOf(x, most, most, most))
		f.Add(append(bytesOf(x, most-3, 4, 0), 1, 2, 3, 4))
	}
	f.Fuzz(func(t *testing.T, b []byte) {
		before := bytes.Clone(b)
		for _, x := range forms {
			checkAll(t, b, x)
		}
		if !bytes.Equal(b, before) {
			t.Error("R2: what was handed in is changed")
		}
	})
}

func FuzzP1PutNeverPanics(f *testing.F) {
	f.Add([]byte{}, []byte{}, uint32(0))
	f.Add([]byte("a"), []byte{}, most)
	f.Add([]byte("GNU\x00"), []byte{1, 2, 3, 4, 5}, uint32(3))
	f.Fuzz(func(t *testing.T, name, desc []byte, kind uint32) {
		l := []api.Note{{Name: name, Desc: desc, Type: kind}, {}, {Name: desc, Desc: name, Type: ^kind}}
		for _, x := range forms {
			checkPut(t, l, x)
			checkPut(t, l[:1], x)
		}
	})
}
