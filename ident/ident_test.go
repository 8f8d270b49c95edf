package ident_test

import (
	"bytes"
	"errors"
	"slices"
	"testing"

	"bezant/api"
	"bezant/ident"
)

const whole = 16

// good tells which bytes the chapter allows at each of the first seven places.
var good = [][]byte{{127}, {69}, {76}, {70}, {1, 2}, {1, 2}, {1}}

// forms holds each class and order, with the two bytes that tell them.
var forms = []struct {
	form         api.Form
	class, order byte
}{
	{api.Form{}, 1, 1},
	{api.Form{Big: true}, 1, 2},
	{api.Form{Wide: true}, 2, 1},
	{api.Form{Wide: true, Big: true}, 2, 2},
}

// file tells a beginning that may be, with other numbers than 0 in all places that may be any.
func file() []byte {
	return []byte{127, 69, 76, 70, 2, 1, 1, 3, 4, 5, 6, 7, 8, 9, 10, 11}
}

// codeAt tells the error of another byte at one of the first seven places.
func codeAt(at int) api.Code {
	if at < 4 {
		return api.ErrMagic
	}
	return api.ErrForm
}

// reference tells the fault of the bytes, 0 if there is none, by the chapter's words, one after the other.
func reference(b []byte) (int, api.Code) {
	for at, allowed := range good {
		if at >= len(b) {
			return len(b), api.ErrShort
		}
		if !slices.Contains(allowed, b[at]) {
			return at, codeAt(at)
		}
	}
	if len(b) < whole {
		return len(b), api.ErrShort
	}
	return 0, 0
}

// checkSpot holds the error, its type, and R3.
func checkSpot(t *testing.T, b []byte, at int, code api.Code) {
	t.Helper()
	x, err := ident.Get(b)
	spot, ok := err.(*api.Spot)
	if !ok || spot == nil {
		t.Errorf("Get(%v): %v, not a Spot", b, err)
		return
	}
	if spot.At != at || spot.Code != code || !errors.Is(err, code) {
		t.Errorf("Get(%v): %v, not %v at %d", b, err, code, at)
	}
	if x != (api.Ident{}) {
		t.Errorf("R3: Get(%v) = %v beside an error", b, x)
	}
}

// checkGet holds Get against the reference.
func checkGet(t *testing.T, b []byte) {
	t.Helper()
	if at, code := reference(b); code != 0 {
		checkSpot(t, b, at, code)
		return
	}
	want := api.Ident{Form: api.Form{Wide: b[4] == 2, Big: b[5] == 2}, OSABI: b[7], ABI: b[8]}
	if x, err := ident.Get(b); err != nil || x != want {
		t.Errorf("Get(%v) = %v, %v", b, x, err)
	}
}

func TestP3_1PutOfEachForm(t *testing.T) {
	for _, c := range forms {
		for _, v := range []byte{0, 1, 3, 127, 128, 255} {
			want := []byte{127, 69, 76, 70, c.class, c.order, 1, v, 255 - v, 0, 0, 0, 0, 0, 0, 0}
			if b := ident.Put(api.Ident{Form: c.form, OSABI: v, ABI: 255 - v}); !bytes.Equal(b, want) {
				t.Errorf("Put of %v, %d, %d = %v", c.form, v, 255-v, b)
			}
		}
	}
}

func TestP3_1GetOfEachForm(t *testing.T) {
	for _, c := range forms {
		b := file()
		b[4], b[5] = c.class, c.order
		want := api.Ident{Form: c.form, OSABI: 3, ABI: 4}
		if x, err := ident.Get(b); err != nil || x != want {
			t.Errorf("Get(%v) = %v, %v", b, x, err)
		}
	}
}

func TestP3_1NoBytes(t *testing.T) {
	checkSpot(t, nil, 0, api.ErrShort)
	checkSpot(t, []byte{}, 0, api.ErrShort)
}

func TestP3_1FewerThanSixteen(t *testing.T) {
	for n := range whole {
		checkSpot(t, file()[:n], n, api.ErrShort)
		checkSpot(t, slices.Clip(file()[:n]), n, api.ErrShort)
	}
	if _, err := ident.Get(file()[:whole]); err != nil {
		t.Error("16 bytes:", err)
	}
}

// TestP3_1EachByteAnother sets each of the first seven to all numbers, in files of all lengths that still have it.
func TestP3_1EachByteAnother(t *testing.T) {
	for at, allowed := range good {
		for v := range 256 {
			b := append(file(), 12, 13)
			b[at] = byte(v)
			for n := at + 1; n <= len(b); n++ {
				checkGet(t, b[:n])
				if !slices.Contains(allowed, byte(v)) {
					checkSpot(t, b[:n], at, codeAt(at))
				}
			}
		}
	}
}

// TestR1TheFirstOfTwoFaults sets any two of the first seven wrong, and cuts the file off behind each byte.
func TestR1TheFirstOfTwoFaults(t *testing.T) {
	for first := range good {
		for second := first + 1; second < len(good); second++ {
			b := file()
			b[first], b[second] = 0, 3
			for n := range whole + 1 {
				if n <= first {
					checkSpot(t, b[:n], n, api.ErrShort)
				} else {
					checkSpot(t, b[:n], first, codeAt(first))
				}
			}
		}
	}
}

func TestR1EachByteWrong(t *testing.T) {
	for n := 1; n < 40; n++ {
		checkSpot(t, make([]byte, n), 0, api.ErrMagic)
		checkSpot(t, bytes.Repeat([]byte{255}, n), 0, api.ErrMagic)
	}
}

// TestP3_1BytesBehindTheSeventh holds that OSABI and ABI are told as they are, and that no other byte matters.
func TestP3_1BytesBehindTheSeventh(t *testing.T) {
	for at := 7; at < 20; at++ {
		for v := range 256 {
			b := append(file(), 0, 0, 0, 0)
			b[at] = byte(v)
			want := api.Ident{Form: api.Form{Wide: true}, OSABI: b[7], ABI: b[8]}
			if x, err := ident.Get(b); err != nil || x != want {
				t.Errorf("byte %d as %d: %v, %v", at, v, x, err)
			}
		}
	}
}

func TestP3_1LongFile(t *testing.T) {
	b := append(file(), make([]byte, 1<<20)...)
	checkGet(t, b)
	b[6] = 0
	checkSpot(t, b, 6, api.ErrForm)
}

func TestP3_1LengthNotCapacity(t *testing.T) {
	b := file()
	b[2] = 0
	checkSpot(t, b[:2], 2, api.ErrShort)
	checkSpot(t, file()[:15], 15, api.ErrShort)
}

// TestP3_2PutTellsNewMemory spoils every answer in turn, with what append would write behind it.
func TestP3_2PutTellsNewMemory(t *testing.T) {
	x := api.Ident{Form: api.Form{Wide: true, Big: true}, OSABI: 9, ABI: 8}
	want := []byte{127, 69, 76, 70, 2, 2, 1, 9, 8, 0, 0, 0, 0, 0, 0, 0}
	told := [][]byte{ident.Put(x), ident.Put(x), ident.Put(x)}
	for i, b := range told {
		if !bytes.Equal(b, want) {
			t.Errorf("answer %d: %v", i, b)
		}
		all := b[:cap(b)]
		for k := range all {
			all[k] = 0xee
		}
	}
	if b := ident.Put(x); !bytes.Equal(b, want) {
		t.Error("once the earlier ones are spoilt:", b)
	}
}

func TestP3_2GetTellsNewErrors(t *testing.T) {
	for _, b := range [][]byte{nil, {1}, file()[:9], {127, 69, 76, 70, 3}} {
		at, code := reference(b)
		_, err := ident.Get(b)
		spot, ok := err.(*api.Spot)
		if !ok {
			t.Fatalf("Get(%v): %v", b, err)
		}
		spot.At, spot.Code = 99, api.ErrWrap
		checkSpot(t, b, at, code)
	}
}

func TestR2GetChangesAndKeepsNothing(t *testing.T) {
	b := append(file(), 12, 13)
	before := slices.Clone(b)
	for n := range len(b) + 1 {
		ident.Get(b[:n])
	}
	if !bytes.Equal(b, before) {
		t.Error("what was handed in is changed:", b)
	}
	x, err := ident.Get(b)
	b[4], b[7] = 1, 77
	if err != nil || x != (api.Ident{Form: api.Form{Wide: true}, OSABI: 3, ABI: 4}) {
		t.Error("what was told:", x, err)
	}
	checkGet(t, b)
	b[0] = 0
	checkGet(t, b)
}

func TestP3_3PutIsGot(t *testing.T) {
	for _, c := range forms {
		for osabi := range 256 {
			for abi := range 256 {
				x := api.Ident{Form: c.form, OSABI: byte(osabi), ABI: byte(abi)}
				b := ident.Put(x)
				if y, err := ident.Get(b); err != nil || y != x {
					t.Fatalf("%v is got as %v, %v", x, y, err)
				}
				if y, err := ident.Get(append(b, 255)); err != nil || y != x {
					t.Fatalf("%v, with a byte behind it, is got as %v, %v", x, y, err)
				}
			}
		}
	}
}

func FuzzP1NoCallPanics(f *testing.F) {
	f.Add([]byte{}, false, byte(0), byte(0))
	f.Add(file(), true, byte(255), byte(1))
	f.Add(file()[:6], false, byte(1), byte(255))
	f.Add([]byte{127, 69, 76, 70, 2, 2, 2}, true, byte(3), byte(4))
	f.Fuzz(func(t *testing.T, b []byte, wide bool, osabi, abi byte) {
		before := bytes.Clone(b)
		checkGet(t, b)
		if !bytes.Equal(b, before) {
			t.Error("R2: what was handed in is changed")
		}
		for _, big := range []bool{false, true} {
			x := api.Ident{Form: api.Form{Wide: wide, Big: big}, OSABI: osabi, ABI: abi}
			if y, err := ident.Get(ident.Put(x)); err != nil || y != x {
				t.Errorf("%v is got as %v, %v", x, y, err)
			}
		}
	})
}
