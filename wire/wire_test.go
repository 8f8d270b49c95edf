package wire_test

import (
	"bytes"
	"encoding/binary"
	"math"
	"math/big"
	"slices"
	"testing"

	"bezant/wire"
)

const top = math.MaxUint64

var (
	widths = []int{1, 2, 4, 8}
	// wrongs holds numbers next to each width, and those whose low bits look like one.
	wrongs = []int{
		0, 3, 5, 6, 7, 9, 16, 32, 64, 256 + 1, 256 + 8, 1<<32 + 4, 1<<61 + 1,
		-1, -2, -4, -8, -256, math.MaxInt, math.MinInt, math.MinInt + 8,
	}
	numbers = []uint64{
		0, 1, 2, 127, 128, 254, 255, 256, 257, 258, 0x7fff, 0x8000, 0xfffe, 0xffff, 0x10000, 0x10001,
		0x7fffffff, 0x80000000, 0xfffffffe, 0xffffffff, 1 << 32, 1<<32 + 1, 1 << 40, 1 << 48, 1 << 56,
		0x0102030405060708, 0xf1f2f3f4f5f6f7f8, 1<<63 - 1, 1 << 63, 1<<63 + 1, top - 1, top,
	}
)

// low tells v's n lowest bytes as a number.
func low(v uint64, n int) uint64 {
	if n == 8 {
		return v
	}
	return v % (1 << (8 * n))
}

// reference tells the same as Put, by the library.
func reference(v uint64, n int, big bool) []byte {
	if big {
		return binary.BigEndian.AppendUint64(nil, v)[8-n:]
	}
	return binary.LittleEndian.AppendUint64(nil, v)[:n]
}

func turned(b []byte) []byte {
	c := slices.Clone(b)
	slices.Reverse(c)
	return c
}

func TestP1_1GetOrdinary(t *testing.T) {
	b := []byte{0xf1, 0xe2, 0xd3, 0xc4, 0xb5, 0xa6, 0x97, 0x88, 0x79}
	for _, c := range []struct {
		at   uint64
		n    int
		big  bool
		want uint64
	}{
		{0, 1, false, 0xf1}, {0, 1, true, 0xf1}, {8, 1, false, 0x79}, {8, 1, true, 0x79},
		{0, 2, false, 0xe2f1}, {0, 2, true, 0xf1e2}, {7, 2, false, 0x7988}, {7, 2, true, 0x8879},
		{0, 4, false, 0xc4d3e2f1}, {0, 4, true, 0xf1e2d3c4}, {5, 4, false, 0x798897a6}, {5, 4, true, 0xa6978879},
		{0, 8, false, 0x8897a6b5c4d3e2f1}, {0, 8, true, 0xf1e2d3c4b5a69788},
		{1, 8, false, 0x798897a6b5c4d3e2}, {1, 8, true, 0xe2d3c4b5a6978879},
	} {
		if v, ok := wire.Get(b, c.at, c.n, c.big); v != c.want || !ok {
			t.Errorf("Get(b, %d, %d, %v) = %#x, %v", c.at, c.n, c.big, v, ok)
		}
	}
}

func TestP1_1GetAtEachPlaceOfEachLength(t *testing.T) {
	for size := range 20 {
		b := make([]byte, size)
		for i := range b {
			b[i] = byte(0xa0 + 7*i)
		}
		for at := range size + 3 {
			for _, n := range widths {
				checkGetAt(t, b, at, n)
			}
		}
	}
}

func checkGetAt(t *testing.T, b []byte, at, n int) {
	t.Helper()
	for _, big := range []bool{false, true} {
		v, ok := wire.Get(b, uint64(at), n, big)
		if at+n > len(b) {
			if v != 0 || ok {
				t.Errorf("Get of %d bytes at %d of %d = %#x, %v", n, at, len(b), v, ok)
			}
			continue
		}
		if !ok || !bytes.Equal(reference(v, n, big), b[at:at+n]) || v != low(v, n) {
			t.Errorf("Get of %d bytes at %d of %d, big %v = %#x, %v", n, at, len(b), big, v, ok)
		}
	}
}

func TestP1_1GetFarPlaces(t *testing.T) {
	b := bytes.Repeat([]byte{0xff}, 16)
	places := []uint64{17, 1 << 31, 1<<32 - 1, 1 << 32, 1<<32 + 1, 1<<63 - 1, 1 << 63, 1<<63 + 1}
	for i := range uint64(20) {
		places = append(places, top-i)
	}
	for _, at := range places {
		for _, n := range widths {
			for _, big := range []bool{false, true} {
				if v, ok := wire.Get(b, at, n, big); v != 0 || ok {
					t.Errorf("Get(b, %d, %d, %v) = %#x, %v", at, n, big, v, ok)
				}
			}
		}
	}
}

func TestP1_1GetIsBoundByLengthNotCapacity(t *testing.T) {
	b := []byte{1, 2, 3, 4, 5, 6, 7, 8}[:3]
	if v, ok := wire.Get(b, 0, 4, false); v != 0 || ok {
		t.Errorf("beyond the length: %d, %v", v, ok)
	}
	if v, ok := wire.Get(b, 3, 1, false); v != 0 || ok {
		t.Errorf("at the length: %d, %v", v, ok)
	}
}

func TestP1_1PutOrdinary(t *testing.T) {
	if b := wire.Put(258, 4, true); !bytes.Equal(b, []byte{0, 0, 1, 2}) {
		t.Error("the chapter's example:", b)
	}
	for _, v := range numbers {
		for _, n := range widths {
			for _, big := range []bool{false, true} {
				if b := wire.Put(v, n, big); !bytes.Equal(b, reference(v, n, big)) {
					t.Errorf("Put(%#x, %d, %v) = %x", v, n, big, b)
				}
			}
		}
	}
}

func TestP1_1Fits(t *testing.T) {
	for _, v := range numbers {
		for _, n := range widths {
			if got := wire.Fits(v, n); got != (low(v, n) == v) {
				t.Errorf("Fits(%#x, %d) = %v", v, n, got)
			}
		}
	}
	for _, n := range []int{1, 2, 4} {
		edge := uint64(1) << (8 * n)
		if !wire.Fits(edge-1, n) || wire.Fits(edge, n) {
			t.Errorf("the edge of %d bytes", n)
		}
	}
	for bit := range 64 {
		for _, n := range widths {
			if got := wire.Fits(1<<bit, n); got != (bit < 8*n) {
				t.Errorf("Fits(1<<%d, %d) = %v", bit, n, got)
			}
		}
	}
}

func TestP1_1WrongWidths(t *testing.T) {
	b := bytes.Repeat([]byte{0xff}, 600)
	for _, n := range wrongs {
		for _, big := range []bool{false, true} {
			for _, at := range []uint64{0, 1, 599, 600, top} {
				if v, ok := wire.Get(b, at, n, big); v != 0 || ok {
					t.Errorf("Get(b, %d, %d, %v) = %#x, %v", at, n, big, v, ok)
				}
			}
			for _, v := range numbers {
				if p := wire.Put(v, n, big); len(p) != 0 {
					t.Errorf("Put(%#x, %d, %v) = %x", v, n, big, p)
				}
			}
		}
		for _, v := range numbers {
			if wire.Fits(v, n) {
				t.Errorf("Fits(%#x, %d)", v, n)
			}
		}
	}
}

func TestP1_1OnlyFourWidths(t *testing.T) {
	b := make([]byte, 300)
	for n := -300; n <= 300; n++ {
		want := slices.Contains(widths, n)
		_, ok := wire.Get(b, 0, n, false)
		if ok != want || wire.Fits(0, n) != want || (len(wire.Put(0, n, true)) != 0) != want {
			t.Errorf("a width of %d", n)
		}
	}
}

// withinReference adds without end, so nothing wraps.
func withinReference(at, n, size uint64) bool {
	sum := new(big.Int).SetUint64(at)
	sum.Add(sum, new(big.Int).SetUint64(n))
	return sum.Cmp(new(big.Int).SetUint64(size)) <= 0
}

func TestP1_2Within(t *testing.T) {
	for _, c := range []struct {
		at, n, size uint64
		want        bool
	}{
		{0, 0, 0, true}, {1, 0, 0, false}, {0, 1, 0, false}, {3, 2, 5, true}, {3, 3, 5, false}, {2, 3, 5, true},
		{5, 0, 5, true}, {6, 0, 5, false}, {0, 5, 5, true}, {0, 6, 5, false},
		{top, 0, top, true}, {0, top, top, true}, {top, 1, top, false}, {1, top, top, false},
		{top, 1, 0, false}, {1, top, 0, false}, {top, 2, 1, false}, {top, top, top, false}, {top, top, top - 1, false},
		{1 << 63, 1 << 63, 0, false}, {1 << 63, 1 << 63, top, false}, {1 << 63, 1<<63 - 1, top, true},
		{1 << 63, 1<<63 - 1, top - 1, false},
	} {
		if got := wire.Within(c.at, c.n, c.size); got != c.want {
			t.Errorf("Within(%d, %d, %d) = %v", c.at, c.n, c.size, got)
		}
	}
	for _, at := range numbers {
		for _, n := range numbers {
			for _, size := range append(numbers, at+n, at+n-1, at+n+1) {
				if got := wire.Within(at, n, size); got != withinReference(at, n, size) {
					t.Errorf("Within(%d, %d, %d) = %v", at, n, size, got)
				}
			}
		}
	}
}

// TestP1_3PutTellsNewMemory spoils every answer in turn: its own bytes, and those that append would write behind it.
func TestP1_3PutTellsNewMemory(t *testing.T) {
	for _, n := range widths {
		for _, big := range []bool{false, true} {
			var told [][]byte
			for range 3 {
				told = append(told, wire.Put(0x0102030405060708, n, big))
			}
			want := reference(0x0102030405060708, n, big)
			for i, b := range told {
				if !bytes.Equal(b, want) {
					t.Errorf("answer %d of %d bytes: %x", i, n, b)
				}
				whole := b[:cap(b)]
				for k := range whole {
					whole[k] = 0xee
				}
			}
			if b := wire.Put(0x0102030405060708, n, big); !bytes.Equal(b, want) {
				t.Errorf("once the earlier ones are spoilt: %x", b)
			}
		}
	}
}

func TestR2GetChangesAndKeepsNothing(t *testing.T) {
	before := []byte{1, 2, 3, 4, 5, 6, 7, 8, 9, 10}
	b := slices.Clone(before)
	for _, n := range append(widths, wrongs...) {
		for at := range uint64(12) {
			wire.Get(b, at, n, false)
			wire.Get(b, at, n, true)
		}
	}
	if !bytes.Equal(b, before) {
		t.Error("what was handed in is changed:", b)
	}
	b[0] = 77
	if v, _ := wire.Get(b, 0, 1, false); v != 77 {
		t.Error("an earlier number is kept:", v)
	}
}

// TestR3ZeroWhereThereIsNothing holds each reason why there is nothing, and two of them at once (R1: both answer alike).
func TestR3ZeroWhereThereIsNothing(t *testing.T) {
	full := bytes.Repeat([]byte{0xff}, 8)
	for _, c := range []struct {
		b  []byte
		at uint64
		n  int
	}{
		{full, 1, 8}, {full, 8, 1}, {full, top, 1}, {full, 0, 3}, {full, 0, 0}, {full, 0, -1},
		{full, 6, 3}, {full, top, -1}, {nil, 0, 1}, {nil, 0, 0}, {[]byte{}, 0, 8}, {nil, top, 3},
	} {
		for _, big := range []bool{false, true} {
			if v, ok := wire.Get(c.b, c.at, c.n, big); v != 0 || ok {
				t.Errorf("Get(%x, %d, %d, %v) = %d, %v", c.b, c.at, c.n, big, v, ok)
			}
		}
	}
}

func TestP1_4PutIsGot(t *testing.T) {
	for _, v := range numbers {
		for _, n := range widths {
			for _, big := range []bool{false, true} {
				checkPutIsGot(t, v, n, big)
			}
		}
	}
}

func checkPutIsGot(t *testing.T, v uint64, n int, big bool) {
	t.Helper()
	b := wire.Put(v, n, big)
	got, ok := wire.Get(b, 0, n, big)
	if !ok || (got == v) != wire.Fits(v, n) || got != low(v, n) {
		t.Errorf("%#x in %d bytes, big %v: got %#x, %v", v, n, big, got, ok)
	}
	if !bytes.Equal(turned(b), wire.Put(v, n, !big)) {
		t.Errorf("%#x in %d bytes, big %v: %x, not turned round in the other order", v, n, big, b)
	}
	if other, ok := wire.Get(turned(b), 0, n, !big); !ok || other != got {
		t.Errorf("%#x in %d bytes, big %v: turned round it is got as %#x, %v", v, n, big, other, ok)
	}
}

func FuzzP1NoCallPanics(f *testing.F) {
	f.Add([]byte{1, 2, 3, 4, 5, 6, 7, 8, 9}, uint64(1), 8, uint64(258))
	f.Add([]byte{}, uint64(top), 8, uint64(top))
	f.Add([]byte{1}, uint64(top), math.MinInt, uint64(0))
	f.Add([]byte{1, 2}, uint64(1), math.MaxInt, uint64(1<<63))
	f.Fuzz(func(t *testing.T, b []byte, at uint64, n int, v uint64) {
		known := slices.Contains(widths, n)
		for _, big := range []bool{false, true} {
			got, ok := wire.Get(b, at, n, big)
			if ok != (known && withinReference(at, uint64(n), uint64(len(b)))) || !ok && got != 0 {
				t.Fatal("get", got, ok)
			}
			if ok && !bytes.Equal(wire.Put(got, n, big), b[at:at+uint64(n)]) {
				t.Fatal("what is got is not what stands there", got)
			}
			if p := wire.Put(v, n, big); known && len(p) != n || !known && len(p) != 0 {
				t.Fatal("put", p)
			}
			if known {
				checkPutIsGot(t, v, n, big)
			}
		}
		if wire.Fits(v, n) && !known {
			t.Fatal("fits")
		}
		if wire.Within(at, v, uint64(n)) != withinReference(at, v, uint64(n)) {
			t.Fatal("within")
		}
	})
}
