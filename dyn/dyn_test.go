package dyn_test

import (
	"bytes"
	"encoding/binary"
	"errors"
	"math"
	"slices"
	"testing"

	"bezant/api"
	"bezant/dyn"
)

const top uint64 = math.MaxUint64

// hold is what spoils memory, and what lies around bytes.
const hold = 0xee

var (
	narrow = []api.Form{{}, {Big: true}}
	wide   = []api.Form{{Wide: true}, {Wide: true, Big: true}}
	forms  = slices.Concat(narrow, wide)
)

// sizeOf tells the chapter's two sizes.
func sizeOf(f api.Form) int {
	if f.Wide {
		return 16
	}
	return 8
}

// widened tells the form of 64 bits that is otherwise the same.
func widened(f api.Form) api.Form {
	f.Wide = true
	return f
}

// most tells the greatest number that a form has room for.
func most(f api.Form) uint64 {
	if f.Wide {
		return top
	}
	return 1<<32 - 1
}

// bytesOf tells a number's bytes by the library.
func bytesOf(v uint64, f api.Form) []byte {
	switch {
	case f.Wide && f.Big:
		return binary.BigEndian.AppendUint64(nil, v)
	case f.Wide:
		return binary.LittleEndian.AppendUint64(nil, v)
	case f.Big:
		return binary.BigEndian.AppendUint32(nil, uint32(v))
	}
	return binary.LittleEndian.AppendUint32(nil, uint32(v))
}

// numberOf tells the number of bytes by the library.
func numberOf(b []byte, f api.Form) uint64 {
	switch {
	case f.Wide && f.Big:
		return binary.BigEndian.Uint64(b)
	case f.Wide:
		return binary.LittleEndian.Uint64(b)
	case f.Big:
		return uint64(binary.BigEndian.Uint32(b))
	}
	return uint64(binary.LittleEndian.Uint32(b))
}

// reference tells the bytes of entries that may be.
func reference(l []api.Dyn, f api.Form) []byte {
	b := make([]byte, 0, len(l)*sizeOf(f))
	for _, d := range l {
		b = append(b, bytesOf(d.Tag, f)...)
		b = append(b, bytesOf(d.Val, f)...)
	}
	return b
}

// told tells the entries up to one of Tag 0, whether there is one, and the byte at which it begins, or else the one that isn't whole.
func told(b []byte, f api.Form) ([]api.Dyn, bool, int) {
	n, at := sizeOf(f), 0
	var l []api.Dyn
	for c := range slices.Chunk(b, n) {
		if len(c) < n {
			break
		}
		tag, val := numberOf(c[:n/2], f), numberOf(c[n/2:], f)
		if tag == 0 {
			return l, true, at
		}
		l = append(l, api.Dyn{Tag: tag, Val: val})
		at += n
	}
	return nil, false, at
}

// full tells one whose bytes are all other ones, in all of their places.
func full(f api.Form) api.Dyn {
	if f.Wide {
		return api.Dyn{Tag: 0xa1a2a3a4a5a6a7a8, Val: 0xb1b2b3b4b5b6b7b8}
	}
	return api.Dyn{Tag: 0xa1a2a3a4, Val: 0xb1b2b3b4}
}

// several tells entries that are all other ones, none of Tag 0; the first Val is 0.
func several(n int, f api.Form) []api.Dyn {
	l := make([]api.Dyn, n)
	for i := range l {
		l[i] = api.Dyn{Tag: most(f) - uint64(i)<<8, Val: uint64(i) << 8}
	}
	return l
}

// noise tells so many bytes that mean nothing, the same ones each time; some of them are 0.
func noise(n int) []byte {
	b := make([]byte, n)
	v := uint32(1)
	for i := range b {
		v = v*1664525 + 1013904223
		b[i] = byte(v >> 24)
	}
	return b
}

// ended tells the same bytes with one entry behind them, of Tag 0, and of all of Val's bits.
func ended(b []byte, f api.Form) []byte {
	return slices.Concat(b, bytesOf(0, f), bytesOf(top, f))
}

// checkPut holds Put against the reference, and what it tells, with the end behind it, against All: P10.3, where none is of Tag 0.
func checkPut(t *testing.T, l []api.Dyn, f api.Form) {
	t.Helper()
	b, err := dyn.Put(l, f)
	if err != nil || !bytes.Equal(b, reference(l, f)) {
		t.Errorf("Put(%v, %v) = %v, %v, not %v", l, f, b, err, reference(l, f))
		return
	}
	want := l
	if i := slices.IndexFunc(l, func(d api.Dyn) bool { return d.Tag == 0 }); i >= 0 {
		want = l[:i]
	}
	for _, behind := range []int{sizeOf(f), sizeOf(f) + 1, 3 * sizeOf(f)} {
		x, err := dyn.All(slices.Concat(b, make([]byte, behind)), f)
		if err != nil || !slices.Equal(x, want) {
			t.Errorf("P10.3: %v of %v, with %d 0s behind it, is got as %v, %v", l, f, behind, x, err)
		}
	}
}

// checkArg holds the error, that it is the Code itself, and R3.
func checkArg(t *testing.T, l []api.Dyn, f api.Form) {
	t.Helper()
	if b, err := dyn.Put(l, f); err != api.ErrArg || len(b) != 0 {
		t.Errorf("Put(%v, %v) = %v, %v, not ErrArg", l, f, b, err)
	}
}

// checkShort holds the error, that it is a pointer to a Spot, its place, and R3.
func checkShort(t *testing.T, b []byte, f api.Form, at int) {
	t.Helper()
	l, err := dyn.All(b, f)
	spot, ok := err.(*api.Spot)
	if !ok || spot == nil || *spot != (api.Spot{At: at, Code: api.ErrShort}) || len(l) != 0 {
		t.Errorf("All(%v, %v) = %v, %v, not ErrShort at %d", b, f, l, err, at)
	}
}

// checkGot holds what All tells against entries told by hand.
func checkGot(t *testing.T, b []byte, f api.Form, want []api.Dyn) {
	t.Helper()
	if l, err := dyn.All(b, f); err != nil || !slices.Equal(l, want) {
		t.Errorf("All(%v, %v) = %v, %v, not %v", b, f, l, err, want)
	}
}

// checkAll holds All against the reference; what is got, put, is the bytes ahead of the one of Tag 0.
func checkAll(t *testing.T, b []byte, f api.Form) {
	t.Helper()
	l, ok, at := told(b, f)
	if !ok {
		checkShort(t, b, f, at)
		return
	}
	checkGot(t, b, f, l)
	if c, err := dyn.Put(l, f); err != nil || !bytes.Equal(c, b[:at]) {
		t.Errorf("%v of %v, put, is %v, %v, not %v", l, f, c, err, b[:at])
	}
}

// checkFind holds Find against what is told by hand, and R3.
func checkFind(t *testing.T, l []api.Dyn, tag, val uint64, ok bool) {
	t.Helper()
	if v, found := dyn.Find(l, tag); v != val || found != ok {
		t.Errorf("Find(%v, %d) = %d, %v, not %d, %v", l, tag, v, found, val, ok)
	}
}

// byHand holds the bytes themselves, so that the reference isn't all that holds them.
var byHand = map[api.Form][]byte{
	{}:          {0xa4, 0xa3, 0xa2, 0xa1, 0xb4, 0xb3, 0xb2, 0xb1},
	{Big: true}: {0xa1, 0xa2, 0xa3, 0xa4, 0xb1, 0xb2, 0xb3, 0xb4},
	{Wide: true}: {
		0xa8, 0xa7, 0xa6, 0xa5, 0xa4, 0xa3, 0xa2, 0xa1,
		0xb8, 0xb7, 0xb6, 0xb5, 0xb4, 0xb3, 0xb2, 0xb1,
	},
	{Wide: true, Big: true}: {
		0xa1, 0xa2, 0xa3, 0xa4, 0xa5, 0xa6, 0xa7, 0xa8,
		0xb1, 0xb2, 0xb3, 0xb4, 0xb5, 0xb6, 0xb7, 0xb8,
	},
}

func TestP10_1ByHand(t *testing.T) {
	for f, one := range byHand {
		l := []api.Dyn{full(f), full(f)}
		b := slices.Concat(one, one)
		if c, err := dyn.Put(l, f); err != nil || !bytes.Equal(c, b) {
			t.Errorf("Put of %v = %v, %v", f, c, err)
		}
		checkShort(t, b, f, len(b))
		b = append(b, make([]byte, len(one))...)
		checkGot(t, b, f, l)
		checkGot(t, append(b, one...), f, l)
	}
}

// TestP10_1Example is the chapter's: no bytes are short at 0.
func TestP10_1Example(t *testing.T) {
	for _, f := range forms {
		checkShort(t, nil, f, 0)
		checkShort(t, []byte{}, f, 0)
		checkShort(t, noise(9)[4:4], f, 0)
	}
}

func TestP10_1NoEntriesPut(t *testing.T) {
	for _, f := range forms {
		for _, l := range [][]api.Dyn{nil, {}} {
			if b, err := dyn.Put(l, f); err != nil || len(b) != 0 {
				t.Errorf("Put of none, %v = %v, %v", f, b, err)
			}
			checkPut(t, l, f)
		}
	}
}

func TestP10_1HowMany(t *testing.T) {
	for _, f := range forms {
		for n := range 41 {
			l := several(n, f)
			checkPut(t, l, f)
			b := reference(l, f)
			checkShort(t, b, f, len(b))
			checkGot(t, ended(b, f), f, l)
			checkAll(t, noise(n*sizeOf(f)), f)
		}
	}
}

func TestP10_1VeryMany(t *testing.T) {
	for _, f := range forms {
		l := several(100000, f)
		checkPut(t, l, f)
		b := reference(l, f)
		checkShort(t, b, f, len(b))
		checkShort(t, b[:len(b)-1], f, len(b)-sizeOf(f))
		checkGot(t, ended(b, f), f, l)
	}
}

// TestP10_1EachNumberAlone sets each number to each power of two, and to those next to it, that it has the bytes for.
func TestP10_1EachNumberAlone(t *testing.T) {
	for _, f := range forms {
		for bit := range 4 * sizeOf(f) {
			for _, v := range []uint64{1<<bit - 1, 1 << bit, 1<<bit | 1, most(f) &^ (1 << bit)} {
				for _, d := range []api.Dyn{{Tag: v}, {Val: v}, {Tag: v, Val: 5}, {Tag: 5, Val: v}, {Tag: v, Val: most(f)}} {
					checkPut(t, []api.Dyn{d}, f)
					checkPut(t, []api.Dyn{full(f), d, full(f)}, f)
				}
			}
		}
	}
}

// TestP10_1EachByteAlone reads each byte of two entries as all of 0 to 255, with nothing and with all bits set around it.
func TestP10_1EachByteAlone(t *testing.T) {
	for _, f := range forms {
		for _, around := range []byte{0, 1, 255} {
			b := bytes.Repeat([]byte{around}, 2*sizeOf(f))
			for i := range b {
				for v := range 256 {
					b[i] = byte(v)
					checkAll(t, b, f)
					checkAll(t, ended(b, f), f)
				}
				b[i] = around
			}
		}
	}
}

// TestP10_1TheGreatest holds the greatest numbers that may be, alone and together.
func TestP10_1TheGreatest(t *testing.T) {
	for _, f := range forms {
		m, half := most(f), bytes.Repeat([]byte{255}, sizeOf(f)/2)
		none := make([]byte, len(half))
		for _, c := range []struct {
			d    api.Dyn
			want []byte
		}{
			{api.Dyn{Tag: m}, slices.Concat(half, none)},
			{api.Dyn{Val: m}, slices.Concat(none, half)},
			{api.Dyn{Tag: m, Val: m}, slices.Concat(half, half)},
		} {
			if b, err := dyn.Put([]api.Dyn{c.d}, f); err != nil || !bytes.Equal(b, c.want) {
				t.Errorf("Put of %v, %v = %v, %v", c.d, f, b, err)
			}
			checkPut(t, []api.Dyn{c.d}, f)
		}
		l := []api.Dyn{{Tag: m}, {Tag: m, Val: m}, {Tag: m - 1, Val: m - 1}}
		checkPut(t, l, f)
		checkGot(t, ended(reference(l, f), f), f, l)
	}
}

// beyond tells numbers that have more than four bytes: the edge, each bit beyond it, and those whose low bits look right.
func beyond() []uint64 {
	all := []uint64{top, top - 1}
	for bit := 32; bit < 64; bit++ {
		all = append(all, 1<<bit, 1<<bit|1, 1<<bit|0xffffffff, top<<bit)
	}
	return all
}

// TestP10_1NoLongerFits takes each wrong number alone, and the same one in 64 bits, where it may be.
func TestP10_1NoLongerFits(t *testing.T) {
	for _, f := range narrow {
		checkPut(t, []api.Dyn{{Tag: 1<<32 - 1}}, f)
		checkPut(t, []api.Dyn{{Val: 1<<32 - 1}}, f)
		for _, v := range beyond() {
			for _, d := range []api.Dyn{{Tag: v}, {Val: v}, {Tag: v, Val: 1}, {Tag: 1, Val: v}, {Tag: v, Val: v}} {
				checkArg(t, []api.Dyn{d}, f)
				checkPut(t, []api.Dyn{d}, widened(f))
			}
		}
	}
}

// TestP10_1NoLongerFitsAmongOthers lays a wrong one in each place of a list, ahead of, among, and behind others.
func TestP10_1NoLongerFitsAmongOthers(t *testing.T) {
	for _, f := range narrow {
		for n := 1; n < 6; n++ {
			for i := range n {
				for _, v := range beyond() {
					l := several(n, f)
					l[i].Tag = v
					checkArg(t, l, f)
					checkPut(t, l, widened(f))
					l[i] = api.Dyn{Tag: 1, Val: v}
					checkArg(t, l, f)
					checkPut(t, l, widened(f))
					l[i].Val = 1<<32 - 1
					checkPut(t, l, f)
				}
			}
		}
	}
}

// TestP10_1NoLongerFitsBehindTheEnd holds that Put doesn't end where All does.
func TestP10_1NoLongerFitsBehindTheEnd(t *testing.T) {
	for _, f := range narrow {
		for _, d := range []api.Dyn{{Tag: 1 << 32}, {Tag: 1, Val: 1 << 32}, {Val: 1 << 32}} {
			checkArg(t, []api.Dyn{{}, d}, f)
			checkArg(t, []api.Dyn{{Tag: 1}, {}, {}, d}, f)
			checkPut(t, []api.Dyn{{}, d}, widened(f))
		}
	}
}

// TestR1SeveralNoLongerFit takes each choice of the wrong numbers of three entries: the answer is one.
func TestR1SeveralNoLongerFit(t *testing.T) {
	for _, f := range forms {
		for choice := range 1 << 6 {
			l := []api.Dyn{{Tag: 1, Val: 2}, {Tag: 3, Val: 4}, {Tag: 5, Val: 6}}
			for i := range l {
				if choice>>(2*i)&1 == 1 {
					l[i].Tag |= 1 << 32
				}
				if choice>>(2*i)&2 == 2 {
					l[i].Val |= 1 << 63
				}
			}
			if choice != 0 && !f.Wide {
				checkArg(t, l, f)
			} else {
				checkPut(t, l, f)
			}
		}
	}
}

// TestP10_1EndPut holds that an entry of Tag 0 is put as any other one, in each place of a list.
func TestP10_1EndPut(t *testing.T) {
	for _, f := range forms {
		n := sizeOf(f)
		b, err := dyn.Put([]api.Dyn{{}}, f)
		if err != nil || !bytes.Equal(b, make([]byte, n)) {
			t.Errorf("Put of an entry of 0s, %v = %v, %v", f, b, err)
		}
		for _, val := range []uint64{0, 1, 255, most(f)} {
			for i := range 5 {
				l := several(5, f)
				l[i] = api.Dyn{Val: val}
				b, err := dyn.Put(l, f)
				if err != nil || !bytes.Equal(b, reference(l, f)) || len(b) != 5*n {
					t.Errorf("Put(%v, %v) = %v, %v", l, f, b, err)
				}
				checkGot(t, b, f, l[:i])
				checkPut(t, l, f)
			}
		}
	}
}

// TestP10_1End lays an entry of Tag 0 at once, in the middle, and at the end, with any Val, and any entries behind it.
func TestP10_1End(t *testing.T) {
	for _, f := range forms {
		for _, val := range []uint64{0, 1, 2, 255, 256, 1 << 31, most(f) - 1, most(f)} {
			end := slices.Concat(make([]byte, sizeOf(f)/2), bytesOf(val, f))
			for ahead := range 6 {
				for behind := range 4 {
					l := several(ahead, f)
					b := slices.Concat(reference(l, f), end, reference(several(behind, f), f))
					checkGot(t, b, f, l)
					checkGot(t, slices.Concat(b, end), f, l)
				}
			}
		}
	}
}

// TestP10_1BehindTheEnd lays any bytes behind it, those of an entry that is cut off, too.
func TestP10_1BehindTheEnd(t *testing.T) {
	for _, f := range forms {
		for ahead := range 4 {
			l := several(ahead, f)
			b := ended(reference(l, f), f)
			for n := range 3*sizeOf(f) + 1 {
				for _, v := range []byte{0, 1, 255} {
					checkGot(t, slices.Concat(b, bytes.Repeat([]byte{v}, n)), f, l)
				}
				checkGot(t, slices.Concat(b, noise(n)), f, l)
			}
		}
	}
}

// TestP10_1EndNotWhole cuts the entry of Tag 0 off: where it isn't whole, it ends nothing.
func TestP10_1EndNotWhole(t *testing.T) {
	for _, f := range forms {
		n := sizeOf(f)
		for ahead := range 4 {
			b := reference(several(ahead, f), f)
			for have := range n {
				checkShort(t, slices.Concat(b, make([]byte, have)), f, ahead*n)
			}
			checkGot(t, slices.Concat(b, make([]byte, n)), f, several(ahead, f))
		}
	}
}

// TestP10_1EndIsAllOfTag holds that a Tag with any bit isn't 0, and that no Val is taken for one.
func TestP10_1EndIsAllOfTag(t *testing.T) {
	for _, f := range forms {
		n := sizeOf(f)
		for bit := range 4 * n {
			l := []api.Dyn{{Tag: 1 << bit}, {Tag: 1 << bit, Val: 1 << bit}, {Tag: 1 << bit}}
			b := reference(l, f)
			checkShort(t, b, f, 3*n)
			checkGot(t, ended(b, f), f, l)
		}
		// From a Val on the same bytes begin with a Tag of 0.
		b := slices.Concat(bytesOf(1, f), bytesOf(0, f), bytesOf(2, f), bytesOf(0, f))
		checkShort(t, b, f, 2*n)
		checkGot(t, b[n/2:], f, nil)
	}
}

// TestP10_1EachLength cuts bytes off at each length, none of Tag 0 among them: At is where the one begins that isn't whole.
func TestP10_1EachLength(t *testing.T) {
	for _, f := range forms {
		n := sizeOf(f)
		b := reference(slices.Repeat([]api.Dyn{full(f)}, 5), f)
		for have := range len(b) + 1 {
			checkShort(t, slices.Clip(b[:have]), f, have/n*n)
		}
	}
}

// TestP10_1LengthOfTheForm takes lengths that are whole in 32 bits alone, or in both classes.
func TestP10_1LengthOfTheForm(t *testing.T) {
	ones := bytes.Repeat([]byte{1}, 40)
	for _, f := range narrow {
		w := widened(f)
		for _, c := range []struct{ have, narrow, wide int }{
			{1, 0, 0}, {7, 0, 0}, {8, 8, 0}, {9, 8, 0}, {15, 8, 0}, {16, 16, 16},
			{17, 16, 16}, {23, 16, 16}, {24, 24, 16}, {31, 24, 16}, {32, 32, 32}, {40, 40, 32},
		} {
			checkShort(t, ones[:c.have], f, c.narrow)
			checkShort(t, ones[:c.have], w, c.wide)
		}
		// Eight 0s are an end in 32 bits, and no more than a Tag in 64.
		checkGot(t, make([]byte, 8), f, nil)
		checkShort(t, make([]byte, 8), w, 0)
		checkShort(t, make([]byte, 15), w, 0)
		checkGot(t, make([]byte, 16), w, nil)
	}
}

// TestP10_1LengthNotCapacity holds that bytes behind the end of those handed in aren't read.
func TestP10_1LengthNotCapacity(t *testing.T) {
	for _, f := range forms {
		n := sizeOf(f)
		b := ended(reference(several(3, f), f), f)
		for have := range 4 * n {
			checkShort(t, b[:have], f, have/n*n)
		}
		checkGot(t, b[n:], f, several(3, f)[1:])
	}
}

func TestP10_1Find(t *testing.T) {
	l := []api.Dyn{{Tag: 5, Val: 258}, {Tag: 7, Val: 1}, {Tag: 5, Val: 9}, {Tag: 8}, {Tag: 8, Val: 3}, {Tag: top, Val: top}}
	for _, c := range []struct {
		tag, val uint64
		ok       bool
	}{
		{7, 1, true}, {top, top, true}, {5, 258, true}, {8, 0, true},
		{6, 0, false}, {0, 0, false}, {258, 0, false}, {9, 0, false}, {1, 0, false}, {4, 0, false},
		{1<<32 | 5, 0, false}, {1<<32 | 7, 0, false}, {1<<32 - 1, 0, false}, {1 << 32, 0, false}, {top - 1, 0, false}, {1 << 63, 0, false},
	} {
		checkFind(t, l, c.tag, c.val, c.ok)
	}
}

// TestP10_1FindAmongNone takes no entries: a Tag of 0 isn't there either.
func TestP10_1FindAmongNone(t *testing.T) {
	for _, l := range [][]api.Dyn{nil, {}} {
		for _, tag := range []uint64{0, 1, 5, 1 << 32, top} {
			checkFind(t, l, tag, 0, false)
		}
	}
}

// TestP10_1FindTagOf0 holds that one of Tag 0 is found as any other one, and that others are found behind it.
func TestP10_1FindTagOf0(t *testing.T) {
	l := []api.Dyn{{Tag: 1, Val: 2}, {Val: 3}, {Tag: 4, Val: 5}, {Val: 6}}
	checkFind(t, l, 0, 3, true)
	checkFind(t, l, 1, 2, true)
	checkFind(t, l, 4, 5, true)
	checkFind(t, l, 3, 0, false)
	checkFind(t, l[:1], 0, 0, false)
	checkFind(t, []api.Dyn{{}}, 0, 0, true)
	checkFind(t, []api.Dyn{{}, {Val: 1}}, 0, 0, true)
	checkFind(t, []api.Dyn{{Val: top}}, 0, top, true)
}

// TestP10_1FindTheFirst finds a Tag in each place of a list, alone there, and with others of that Tag behind it.
func TestP10_1FindTheFirst(t *testing.T) {
	for _, tag := range []uint64{0, 1, 255, 1<<32 - 1, 1 << 32, top} {
		for n := 1; n < 8; n++ {
			for i := range n {
				l := make([]api.Dyn, n)
				for k := range l {
					l[k] = api.Dyn{Tag: tag ^ 2, Val: uint64(100 + k)}
				}
				l[i].Tag = tag
				checkFind(t, l, tag, uint64(100+i), true)
				for k := i; k < n; k++ {
					l[k].Tag = tag
					checkFind(t, l, tag, uint64(100+i), true)
				}
				checkFind(t, l[:i], tag, 0, false)
			}
		}
	}
}

// TestP10_1FindEachBit holds that two Tags are the same only if all of their bits are.
func TestP10_1FindEachBit(t *testing.T) {
	for _, tag := range []uint64{0, 0xa1a2a3a4a5a6a7a8, top} {
		for bit := range 64 {
			other := tag ^ 1<<bit
			l := []api.Dyn{{Tag: other, Val: 1}}
			checkFind(t, l, tag, 0, false)
			checkFind(t, append(l, api.Dyn{Tag: tag, Val: 2}), tag, 2, true)
		}
	}
}

func TestP10_1FindAmongVeryMany(t *testing.T) {
	l := several(100000, api.Form{})
	for i, d := range l {
		if i%9973 == 0 || i == len(l)-1 {
			checkFind(t, l, d.Tag, d.Val, true)
		}
	}
	checkFind(t, l, 1, 0, false)
}

// TestErrorsAsTold holds that one is the Code itself, and that the other one is a Spot, whose Code is found too.
func TestErrorsAsTold(t *testing.T) {
	var code api.Code
	var spot *api.Spot
	_, err := dyn.Put([]api.Dyn{{}, {Tag: 1 << 32}}, api.Form{})
	if !errors.Is(err, api.ErrArg) || !errors.As(err, &code) || code != api.ErrArg || errors.As(err, &spot) {
		t.Errorf("%v, not ErrArg itself", err)
	}
	_, err = dyn.All(bytes.Repeat([]byte{1}, 17), api.Form{Wide: true})
	if !errors.Is(err, api.ErrShort) || !errors.As(err, &spot) || spot.At != 16 || spot.Code != api.ErrShort {
		t.Errorf("%v, not ErrShort as a Spot at 16", err)
	}
}

func TestP10_2PutTellsNewMemory(t *testing.T) {
	for _, f := range forms {
		l := several(3, f)
		want := reference(l, f)
		for range 3 {
			b, err := dyn.Put(l, f)
			if err != nil || !bytes.Equal(b, want) {
				t.Errorf("once the earlier ones are spoilt: %v, %v", b, err)
			}
			all := b[:cap(b)]
			for i := range all {
				all[i] = hold
			}
		}
		first, _ := dyn.Put(l, f)
		second, _ := dyn.Put(make([]api.Dyn, 3), f)
		if !bytes.Equal(first, want) || !bytes.Equal(second, make([]byte, 3*sizeOf(f))) {
			t.Error("two answers share memory:", first, second)
		}
	}
}

func TestP10_2AllTellsNewMemory(t *testing.T) {
	for _, f := range forms {
		want := several(3, f)
		b := ended(reference(want, f), f)
		for range 3 {
			l, err := dyn.All(b, f)
			if err != nil || !slices.Equal(l, want) {
				t.Errorf("once the earlier ones are spoilt: %v, %v", l, err)
			}
			all := l[:cap(l)]
			for i := range all {
				all[i] = api.Dyn{Tag: hold, Val: hold}
			}
		}
		first, _ := dyn.All(b, f)
		second, _ := dyn.All(ended(bytes.Repeat([]byte{1}, 3*sizeOf(f)), f), f)
		if !slices.Equal(first, want) || len(second) != 3 || second[0] == first[0] {
			t.Error("two answers share memory:", first, second)
		}
	}
}

// TestP10_2AllTellsNewSpots holds that a Spot that is spoilt spoils no later one.
func TestP10_2AllTellsNewSpots(t *testing.T) {
	for _, f := range forms {
		for range 3 {
			_, err := dyn.All(bytes.Repeat([]byte{1}, 3*sizeOf(f)-1), f)
			var spot *api.Spot
			if !errors.As(err, &spot) || *spot != (api.Spot{At: 2 * sizeOf(f), Code: api.ErrShort}) {
				t.Fatalf("%v of %v", err, f)
			}
			*spot = api.Spot{}
		}
		_, first := dyn.All(nil, f)
		_, second := dyn.All(bytes.Repeat([]byte{1}, sizeOf(f)), f)
		var one, other *api.Spot
		if !errors.As(first, &one) || !errors.As(second, &other) || one.At != 0 || other.At != sizeOf(f) {
			t.Errorf("two Spots share memory: %v, %v", first, second)
		}
	}
}

func TestR2PutChangesAndKeepsNothing(t *testing.T) {
	for _, f := range forms {
		l := several(5, f)
		before := slices.Clone(l)
		b, err := dyn.Put(l[:3], f)
		if !slices.Equal(l, before) {
			t.Error("what was handed in is changed:", l)
		}
		clear(l)
		if err != nil || !bytes.Equal(b, reference(before[:3], f)) {
			t.Error("what was told:", b, err)
		}
		checkPut(t, l, f)
		checkPut(t, before, f)
	}
}

// TestR2PutChangesNothingWithAnError holds it of a list whose last one may not be.
func TestR2PutChangesNothingWithAnError(t *testing.T) {
	for _, f := range narrow {
		l := append(several(4, f), api.Dyn{Tag: 1, Val: 1 << 32})
		before := slices.Clone(l)
		checkArg(t, l, f)
		if !slices.Equal(l, before) {
			t.Error("what was handed in is changed:", l)
		}
		checkPut(t, l[:4], f)
	}
}

func TestR2AllChangesAndKeepsNothing(t *testing.T) {
	for _, f := range forms {
		want := several(4, f)
		b := slices.Concat(ended(reference(want, f), f), []byte{1, 2, 3})
		before := slices.Clone(b)
		for n := range len(b) + 1 {
			dyn.All(b[:n], f)
		}
		l, err := dyn.All(b, f)
		if !bytes.Equal(b, before) {
			t.Error("what was handed in is changed:", b)
		}
		clear(b)
		if err != nil || !slices.Equal(l, want) {
			t.Error("what was told:", l, err)
		}
		checkAll(t, b, f)
		checkAll(t, before, f)
	}
}

func TestR2FindChangesAndKeepsNothing(t *testing.T) {
	l := []api.Dyn{{Tag: 9, Val: 1}, {Tag: 2, Val: 2}, {Tag: 9, Val: 3}, {}, {Tag: 1, Val: 4}}
	before := slices.Clone(l)
	for tag := range uint64(11) {
		dyn.Find(l, tag)
	}
	if !slices.Equal(l, before) {
		t.Error("what was handed in is changed:", l)
	}
	l[0], l[1] = api.Dyn{Tag: 2, Val: 7}, api.Dyn{Tag: 1, Val: 8}
	checkFind(t, l, 9, 3, true)
	checkFind(t, l, 2, 7, true)
	checkFind(t, l, 1, 8, true)
}

// TestR3 holds that with an error, and where there is nothing, there is nothing beside it, whatever stood ahead.
func TestR3(t *testing.T) {
	for _, f := range forms {
		for n := range 20 {
			l := several(n, f)
			if x, err := dyn.All(reference(l, f), f); err == nil || len(x) != 0 {
				t.Errorf("All of %d entries without an end, %v = %v, %v", n, f, x, err)
			}
			if b, err := dyn.Put(append(l, api.Dyn{Tag: 1 << 40}), f); !f.Wide && (err == nil || len(b) != 0) {
				t.Errorf("Put of %d entries, and one that may not be, %v = %v, %v", n, f, b, err)
			}
			checkFind(t, l, 1, 0, false)
		}
	}
}

// TestP10_3 holds that what was put, none of Tag 0, is got once there are 0s behind it, and just from so many of them on as an entry has bytes.
func TestP10_3(t *testing.T) {
	for _, f := range forms {
		for n := range 6 {
			l := several(n, f)
			b, err := dyn.Put(l, f)
			if err != nil {
				t.Fatal(err)
			}
			for zeros := range 4 * sizeOf(f) {
				c := slices.Concat(b, make([]byte, zeros))
				if zeros < sizeOf(f) {
					checkShort(t, c, f, len(b))
				} else {
					checkGot(t, c, f, l)
				}
			}
		}
	}
}

// TestP10_3OfTheOtherForms holds that a form says how entries are written, not what they are.
func TestP10_3OfTheOtherForms(t *testing.T) {
	l := several(6, api.Form{})
	for _, f := range forms {
		checkPut(t, l, f)
		b := ended(reference(l, f), f)
		for _, other := range forms {
			checkAll(t, b, other)
		}
	}
}

// TestP10_3Noise reads many bytes that mean nothing, with 0s in each place.
func TestP10_3Noise(t *testing.T) {
	b := noise(600)
	for _, f := range forms {
		for from := range 100 {
			for to := from; to <= len(b); to += 37 {
				checkAll(t, b[from:to], f)
				checkAll(t, ended(b[from:to], f), f)
			}
		}
		for from := range 200 {
			c := slices.Clone(b)
			clear(c[from : from+sizeOf(f)])
			checkAll(t, c, f)
		}
	}
}

func FuzzP1AllNeverPanics(f *testing.F) {
	f.Add([]byte{})
	f.Add(noise(17))
	for _, x := range forms {
		f.Add(reference(several(3, x), x))
		f.Add(ended(reference(several(3, x), x), x))
		f.Add(ended(nil, x))
	}
	f.Fuzz(func(t *testing.T, b []byte) {
		before := bytes.Clone(b)
		for _, x := range forms {
			checkAll(t, b, x)
		}
		if !bytes.Equal(b, before) {
			t.Error("R2: what was handed in is changed")
		}
	})
}

func FuzzP1PutAndFindNeverPanic(f *testing.F) {
	f.Add(uint64(0), uint64(0), uint64(0))
	f.Add(top, top, top)
	f.Add(uint64(1)<<32, uint64(1), uint64(0))
	f.Add(uint64(1), uint64(1)<<32, uint64(1))
	f.Add(uint64(1)<<32-1, uint64(1)<<32-1, uint64(1)<<32)
	f.Fuzz(func(t *testing.T, tag, val, sought uint64) {
		l := []api.Dyn{{Tag: 1}, {Tag: tag, Val: val}}
		for _, x := range forms {
			if tag <= most(x) && val <= most(x) {
				checkPut(t, l, x)
			} else {
				checkArg(t, l, x)
			}
		}
		switch sought {
		case 1:
			checkFind(t, l, sought, 0, true)
		case tag:
			checkFind(t, l, sought, val, true)
		default:
			checkFind(t, l, sought, 0, false)
		}
	})
}
