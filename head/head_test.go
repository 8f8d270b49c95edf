package head_test

import (
	"bytes"
	"encoding/binary"
	"errors"
	"math"
	"slices"
	"testing"

	"bezant/api"
	"bezant/head"
	"bezant/ident"
)

// layout tells where a class has its numbers, and the sizes that it asks for.
type layout struct {
	size, address                                 int
	entry, phoff, shoff, flags                    int
	headSize, progSize, phnum, sectSize, shnum    int
	str                                           int
	headSizeIs, progSizeIs, sectSizeIs, versionIs uint64
}

var (
	narrow = layout{52, 4, 24, 28, 32, 36, 40, 42, 44, 46, 48, 50, 52, 32, 40, 1}
	wide   = layout{64, 8, 24, 32, 40, 48, 52, 54, 56, 58, 60, 62, 64, 56, 64, 1}
	forms  = []api.Form{{}, {Big: true}, {Wide: true}, {Wide: true, Big: true}}
)

const (
	typeAt    = 16
	machineAt = 18
	versionAt = 20
)

func layoutOf(f api.Form) layout {
	if f.Wide {
		return wide
	}
	return narrow
}

// get tells a number of n bytes by the library.
func get(b []byte, at, n int, big bool) uint64 {
	c := make([]byte, 8)
	if big {
		copy(c[8-n:], b[at:at+n])
		return binary.BigEndian.Uint64(c)
	}
	copy(c, b[at:at+n])
	return binary.LittleEndian.Uint64(c)
}

// set writes a number of n bytes by the library.
func set(b []byte, at, n int, big bool, v uint64) {
	if big {
		copy(b[at:at+n], binary.BigEndian.AppendUint64(nil, v)[8-n:])
		return
	}
	copy(b[at:at+n], binary.LittleEndian.AppendUint64(nil, v)[:n])
}

// header tells one whose numbers are all other ones, in all of their bytes.
func header(f api.Form) api.Head {
	h := api.Head{
		Ident: api.Ident{Form: f, OSABI: 0xa1, ABI: 0xa2},
		Type:  0xb1b2, Machine: 0xc1c2,
		Entry: 0xd1d2d3d4, Phoff: 0xe1e2e3e4, Shoff: 0xf1f2f3f4,
		Flags: 0x91929394,
		Phnum: 0x8182, Shnum: 0x7172, Str: 0x6162,
	}
	if f.Wide {
		h.Entry, h.Phoff, h.Shoff = 0xd1d2d3d4d5d6d7d8, 0xe1e2e3e4e5e6e7e8, 0xf1f2f3f4f5f6f7f8
	}
	return h
}

// reference tells the bytes of a header that may be.
func reference(h api.Head) []byte {
	f := h.Ident.Form
	l, big := layoutOf(f), f.Big
	b := make([]byte, l.size)
	copy(b, ident.Put(h.Ident))
	set(b, typeAt, 2, big, uint64(h.Type))
	set(b, machineAt, 2, big, uint64(h.Machine))
	set(b, versionAt, 4, big, l.versionIs)
	set(b, l.entry, l.address, big, h.Entry)
	set(b, l.phoff, l.address, big, h.Phoff)
	set(b, l.shoff, l.address, big, h.Shoff)
	set(b, l.flags, 4, big, uint64(h.Flags))
	set(b, l.headSize, 2, big, l.headSizeIs)
	if h.Phnum != 0 {
		set(b, l.progSize, 2, big, l.progSizeIs)
	}
	set(b, l.phnum, 2, big, uint64(h.Phnum))
	if h.Shoff != 0 {
		set(b, l.sectSize, 2, big, l.sectSizeIs)
	}
	set(b, l.shnum, 2, big, uint64(h.Shnum))
	set(b, l.str, 2, big, uint64(h.Str))
	return b
}

// told tells what Get is to answer, by the chapter's words, one after the other.
func told(b []byte) (api.Head, error) {
	id, err := ident.Get(b)
	if err != nil {
		return api.Head{}, err
	}
	l, big := layoutOf(id.Form), id.Form.Big
	if len(b) < l.size {
		return api.Head{}, &api.Spot{At: len(b), Code: api.ErrShort}
	}
	h := api.Head{
		Ident:   id,
		Type:    uint16(get(b, typeAt, 2, big)),
		Machine: uint16(get(b, machineAt, 2, big)),
		Entry:   get(b, l.entry, l.address, big),
		Phoff:   get(b, l.phoff, l.address, big),
		Shoff:   get(b, l.shoff, l.address, big),
		Flags:   uint32(get(b, l.flags, 4, big)),
		Phnum:   uint16(get(b, l.phnum, 2, big)),
		Shnum:   uint16(get(b, l.shnum, 2, big)),
		Str:     uint16(get(b, l.str, 2, big)),
	}
	if get(b, versionAt, 4, big) != l.versionIs {
		return api.Head{}, &api.Spot{At: versionAt, Code: api.ErrForm}
	}
	if get(b, l.headSize, 2, big) != l.headSizeIs {
		return api.Head{}, &api.Spot{At: l.headSize, Code: api.ErrForm}
	}
	if h.Phnum != 0 && get(b, l.progSize, 2, big) != l.progSizeIs {
		return api.Head{}, &api.Spot{At: l.progSize, Code: api.ErrForm}
	}
	if h.Shoff != 0 && get(b, l.sectSize, 2, big) != l.sectSizeIs {
		return api.Head{}, &api.Spot{At: l.sectSize, Code: api.ErrForm}
	}
	return h, nil
}

// checkSpot holds the error, its type, and R3.
func checkSpot(t *testing.T, b []byte, at int, code api.Code) {
	t.Helper()
	h, err := head.Get(b)
	spot, ok := err.(*api.Spot)
	if !ok || spot == nil {
		t.Errorf("Get(%v): %v, not a Spot", b, err)
		return
	}
	if spot.At != at || spot.Code != code || !errors.Is(err, code) {
		t.Errorf("Get(%v): %v, not %v at %d", b, err, code, at)
	}
	if h != (api.Head{}) {
		t.Errorf("R3: Get(%v) = %v beside an error", b, h)
	}
}

// checkHead holds that bytes are a header.
func checkHead(t *testing.T, b []byte, want api.Head) {
	t.Helper()
	if h, err := head.Get(b); err != nil || h != want {
		t.Errorf("Get(%v) = %v, %v, not %v", b, h, err, want)
	}
}

// checkGet holds Get against the chapter's words.
func checkGet(t *testing.T, b []byte) {
	t.Helper()
	want, err := told(b)
	if spot, ok := err.(*api.Spot); ok {
		checkSpot(t, b, spot.At, spot.Code)
		return
	}
	checkHead(t, b, want)
}

// checkPut holds Put against the reference, and P4.3.
func checkPut(t *testing.T, h api.Head) {
	t.Helper()
	b, err := head.Put(h)
	if err != nil || !bytes.Equal(b, reference(h)) {
		t.Errorf("Put(%v) = %v, %v, not %v", h, b, err, reference(h))
		return
	}
	checkHead(t, b, h)
}

// checkArg holds the error, that it is the Code itself, and R3.
func checkArg(t *testing.T, h api.Head) {
	t.Helper()
	if b, err := head.Put(h); err != api.ErrArg || len(b) != 0 {
		t.Errorf("Put(%v) = %v, %v, not ErrArg", h, b, err)
	}
}

func TestP4_1Size(t *testing.T) {
	for _, f := range forms {
		if n := head.Size(f); n != layoutOf(f).size {
			t.Errorf("Size(%v) = %d", f, n)
		}
	}
}

// TestP4_1PutByHand holds the bytes themselves, so that the reference isn't all that holds them.
func TestP4_1PutByHand(t *testing.T) {
	for f, want := range map[api.Form][]byte{
		{}: {
			127, 69, 76, 70, 1, 1, 1, 0xa1, 0xa2, 0, 0, 0, 0, 0, 0, 0, 0xb2, 0xb1, 0xc2, 0xc1, 1, 0, 0, 0,
			0xd4, 0xd3, 0xd2, 0xd1, 0xe4, 0xe3, 0xe2, 0xe1, 0xf4, 0xf3, 0xf2, 0xf1, 0x94, 0x93, 0x92, 0x91,
			52, 0, 32, 0, 0x82, 0x81, 40, 0, 0x72, 0x71, 0x62, 0x61,
		},
		{Big: true}: {
			127, 69, 76, 70, 1, 2, 1, 0xa1, 0xa2, 0, 0, 0, 0, 0, 0, 0, 0xb1, 0xb2, 0xc1, 0xc2, 0, 0, 0, 1,
			0xd1, 0xd2, 0xd3, 0xd4, 0xe1, 0xe2, 0xe3, 0xe4, 0xf1, 0xf2, 0xf3, 0xf4, 0x91, 0x92, 0x93, 0x94,
			0, 52, 0, 32, 0x81, 0x82, 0, 40, 0x71, 0x72, 0x61, 0x62,
		},
		{Wide: true}: {
			127, 69, 76, 70, 2, 1, 1, 0xa1, 0xa2, 0, 0, 0, 0, 0, 0, 0, 0xb2, 0xb1, 0xc2, 0xc1, 1, 0, 0, 0,
			0xd8, 0xd7, 0xd6, 0xd5, 0xd4, 0xd3, 0xd2, 0xd1, 0xe8, 0xe7, 0xe6, 0xe5, 0xe4, 0xe3, 0xe2, 0xe1,
			0xf8, 0xf7, 0xf6, 0xf5, 0xf4, 0xf3, 0xf2, 0xf1, 0x94, 0x93, 0x92, 0x91,
			64, 0, 56, 0, 0x82, 0x81, 64, 0, 0x72, 0x71, 0x62, 0x61,
		},
		{Wide: true, Big: true}: {
			127, 69, 76, 70, 2, 2, 1, 0xa1, 0xa2, 0, 0, 0, 0, 0, 0, 0, 0xb1, 0xb2, 0xc1, 0xc2, 0, 0, 0, 1,
			0xd1, 0xd2, 0xd3, 0xd4, 0xd5, 0xd6, 0xd7, 0xd8, 0xe1, 0xe2, 0xe3, 0xe4, 0xe5, 0xe6, 0xe7, 0xe8,
			0xf1, 0xf2, 0xf3, 0xf4, 0xf5, 0xf6, 0xf7, 0xf8, 0x91, 0x92, 0x93, 0x94,
			0, 64, 0, 56, 0x81, 0x82, 0, 64, 0x71, 0x72, 0x61, 0x62,
		},
	} {
		if b, err := head.Put(header(f)); err != nil || !bytes.Equal(b, want) {
			t.Errorf("Put of %v = %v, %v, not %v", f, b, err, want)
		}
		checkHead(t, want, header(f))
	}
}

// TestP4_1EachNumberAlone sets one number, and leaves all others 0, so that no two are mixed up.
func TestP4_1EachNumberAlone(t *testing.T) {
	for _, f := range forms {
		none := api.Head{Ident: api.Ident{Form: f}}
		checkPut(t, none)
		for _, v := range []uint64{1, 255, 256, 0x0102, 0x7fff, 0x8000, 0xfffe, 0xffff} {
			for _, change := range numbersSet(v) {
				h := none
				change(&h)
				checkPut(t, h)
				h = header(f)
				change(&h)
				checkPut(t, h)
			}
		}
	}
}

// numbersSet tells for each of a header's numbers what sets it.
func numbersSet(v uint64) []func(*api.Head) {
	return []func(*api.Head){
		func(h *api.Head) { h.Ident.OSABI = byte(v) },
		func(h *api.Head) { h.Ident.ABI = byte(v) },
		func(h *api.Head) { h.Type = uint16(v) },
		func(h *api.Head) { h.Machine = uint16(v) },
		func(h *api.Head) { h.Entry = v },
		func(h *api.Head) { h.Phoff = v },
		func(h *api.Head) { h.Shoff = v },
		func(h *api.Head) { h.Flags = uint32(v)<<16 | 1 },
		func(h *api.Head) { h.Phnum = uint16(v) },
		func(h *api.Head) { h.Shnum = uint16(v) },
		func(h *api.Head) { h.Str = uint16(v) },
	}
}

// addressesSet tells for each number of a class's width what sets it.
func addressesSet(v uint64) []func(*api.Head) {
	return []func(*api.Head){
		func(h *api.Head) { h.Entry = v },
		func(h *api.Head) { h.Phoff = v },
		func(h *api.Head) { h.Shoff = v },
	}
}

func TestP4_1PutWhatFits(t *testing.T) {
	for _, f := range forms {
		for _, v := range []uint64{0, 1, 0xffff, 0x10000, 1<<31 - 1, 1 << 31, 1<<32 - 2, 1<<32 - 1} {
			for _, change := range addressesSet(v) {
				h := header(f)
				change(&h)
				checkPut(t, h)
			}
		}
	}
}

func TestP4_1PutWhatNoLongerFits(t *testing.T) {
	for _, f := range forms {
		for _, v := range []uint64{1 << 32, 1<<32 + 1, 1<<33 - 1, 1 << 40, 1<<63 - 1, 1 << 63, math.MaxUint64 - 1, math.MaxUint64} {
			for _, change := range addressesSet(v) {
				for _, h := range []api.Head{header(f), {Ident: api.Ident{Form: f}}} {
					change(&h)
					if f.Wide {
						checkPut(t, h)
					} else {
						checkArg(t, h)
					}
				}
			}
		}
		h := api.Head{Ident: api.Ident{Form: f}, Entry: 1 << 32, Phoff: 1 << 48, Shoff: math.MaxUint64}
		if f.Wide {
			checkPut(t, h)
		} else {
			checkArg(t, h)
		}
	}
}

// TestP4_1NoHeadersOfAKind holds each size that Put writes where Phnum or Shoff is 0, and each that Get takes there.
func TestP4_1NoHeadersOfAKind(t *testing.T) {
	for _, f := range forms {
		for _, phnum := range []uint16{0, 256, api.Escape} {
			for _, shoff := range []uint64{0, 1, 1 << 31} {
				h := header(f)
				h.Phnum, h.Shoff = phnum, shoff
				checkPut(t, h)
				checkSizes(t, h)
			}
		}
	}
}

// checkSizes holds each size of both kinds of headers, where it may be any, and where it may not.
func checkSizes(t *testing.T, h api.Head) {
	t.Helper()
	l, big := layoutOf(h.Ident.Form), h.Ident.Form.Big
	for v := range uint64(1 << 16) {
		b := reference(h)
		set(b, l.progSize, 2, big, v)
		set(b, l.sectSize, 2, big, 0xffff-v)
		at := 0
		switch {
		case h.Phnum != 0 && v != l.progSizeIs:
			at = l.progSize
		case h.Shoff != 0 && 0xffff-v != l.sectSizeIs:
			at = l.sectSize
		}
		if at == 0 {
			checkHead(t, b, h)
		} else {
			checkSpot(t, b, at, api.ErrForm)
		}
	}
}

// TestP4_1ShoffByItsBytes holds that all of Shoff tells whether it is 0, not its low bytes alone.
func TestP4_1ShoffByItsBytes(t *testing.T) {
	for _, f := range forms {
		l := layoutOf(f)
		for i := range l.address {
			h := header(f)
			h.Shoff = 1 << (8 * i)
			checkPut(t, h)
			b := reference(h)
			set(b, l.sectSize, 2, f.Big, 0)
			checkSpot(t, b, l.sectSize, api.ErrForm)
		}
	}
}

// TestP4_1OtherNumbersThatAreZero holds that no other number than Phnum and Shoff frees a size.
func TestP4_1OtherNumbersThatAreZero(t *testing.T) {
	for _, f := range forms {
		l := layoutOf(f)
		h := api.Head{Ident: api.Ident{Form: f}, Phnum: 1, Shoff: 1}
		checkPut(t, h)
		for _, at := range []int{l.progSize, l.sectSize} {
			b := reference(h)
			set(b, at, 2, f.Big, 0)
			checkSpot(t, b, at, api.ErrForm)
		}
		h = header(f)
		h.Phnum, h.Shoff = 0, 0
		checkPut(t, h)
	}
}

// TestP4_1FewerBytes cuts a header off behind each byte: ahead of the 16th the error is layer 3's.
func TestP4_1FewerBytes(t *testing.T) {
	for _, f := range forms {
		b := reference(header(f))
		for n := range b {
			checkSpot(t, b[:n], n, api.ErrShort)
			checkSpot(t, slices.Clone(b[:n]), n, api.ErrShort)
			checkSpot(t, slices.Clip(b[:n]), n, api.ErrShort)
		}
	}
	checkSpot(t, nil, 0, api.ErrShort)
	checkSpot(t, []byte{}, 0, api.ErrShort)
}

// TestP4_1LengthByTheClass holds that a header of 64 bits isn't read of the 52 bytes that do for one of 32.
func TestP4_1LengthByTheClass(t *testing.T) {
	for _, big := range []bool{false, true} {
		b := reference(header(api.Form{Wide: true, Big: big}))
		checkSpot(t, b[:52], 52, api.ErrShort)
		checkSpot(t, b[:63], 63, api.ErrShort)
		h := header(api.Form{Big: big})
		checkHead(t, reference(h)[:52], h)
	}
}

func TestP4_1BytesBehind(t *testing.T) {
	for _, f := range forms {
		h := header(f)
		for _, n := range []int{1, 2, 11, 12, 13, 200, 1 << 17} {
			for _, v := range []byte{0, 1, 127, 255} {
				checkHead(t, append(reference(h), bytes.Repeat([]byte{v}, n)...), h)
			}
		}
	}
}

// TestP4_1EachByteAnother sets each byte of a header to all numbers.
func TestP4_1EachByteAnother(t *testing.T) {
	for _, f := range forms {
		for _, h := range []api.Head{header(f), {Ident: api.Ident{Form: f}}} {
			for at := range reference(h) {
				for v := range 256 {
					b := append(reference(h), 3, 4)
					b[at] = byte(v)
					checkGet(t, b)
				}
			}
		}
	}
}

// fixed tells the numbers that may only be what they should, by their places.
func fixed(l layout) []struct {
	at, n int
	is    uint64
} {
	return []struct {
		at, n int
		is    uint64
	}{
		{versionAt, 4, l.versionIs},
		{l.headSize, 2, l.headSizeIs},
		{l.progSize, 2, l.progSizeIs},
		{l.sectSize, 2, l.sectSizeIs},
	}
}

func TestP4_1EachFixedNumberAnother(t *testing.T) {
	wrongs := []uint64{0, 1, 2, 31, 32, 33, 39, 40, 41, 52, 55, 56, 57, 63, 64, 65, 256, 1 << 8, 52 << 8, 0xffff, 1 << 16, 1 << 24, 1<<24 | 1, 1<<32 - 1}
	for _, f := range forms {
		for _, c := range fixed(layoutOf(f)) {
			for _, v := range wrongs {
				if v == c.is || c.n == 2 && v > 0xffff {
					continue
				}
				b := reference(header(f))
				set(b, c.at, c.n, f.Big, v)
				checkSpot(t, b, c.at, api.ErrForm)
			}
		}
	}
}

// TestR1TheFirstOfSeveralNumbers sets each choice of the fixed numbers wrong, where none may be any.
func TestR1TheFirstOfSeveralNumbers(t *testing.T) {
	for _, f := range forms {
		all := fixed(layoutOf(f))
		for choice := 1; choice < 1<<len(all); choice++ {
			b := reference(header(f))
			at := 0
			for i, c := range all {
				if choice>>i&1 == 0 {
					continue
				}
				set(b, c.at, c.n, f.Big, c.is+1)
				if at == 0 {
					at = c.at
				}
			}
			checkSpot(t, b, at, api.ErrForm)
		}
	}
}

// TestR1FreedSizesHideNothing holds that a size that may be any neither is told nor keeps a later number from it.
func TestR1FreedSizesHideNothing(t *testing.T) {
	for _, f := range forms {
		l := layoutOf(f)
		h := header(f)
		h.Phnum = 0
		b := reference(h)
		set(b, l.progSize, 2, f.Big, 7)
		set(b, l.sectSize, 2, f.Big, 7)
		checkSpot(t, b, l.sectSize, api.ErrForm)
		h = header(f)
		h.Shoff = 0
		b = reference(h)
		set(b, l.sectSize, 2, f.Big, 7)
		checkHead(t, b, h)
		set(b, l.progSize, 2, f.Big, 7)
		checkSpot(t, b, l.progSize, api.ErrForm)
		h.Phnum = 0
		b = reference(h)
		set(b, l.headSize, 2, f.Big, 7)
		checkSpot(t, b, l.headSize, api.ErrForm)
		set(b, versionAt, 4, f.Big, 0)
		checkSpot(t, b, versionAt, api.ErrForm)
	}
}

// TestR1ShortAheadOfForm holds that a header that is cut off is short, whatever its numbers are.
func TestR1ShortAheadOfForm(t *testing.T) {
	for _, f := range forms {
		b := reference(header(f))
		for i := typeAt; i < len(b); i++ {
			b[i] = 0xee
		}
		for n := typeAt; n < len(b); n++ {
			checkSpot(t, b[:n], n, api.ErrShort)
		}
		checkSpot(t, b, versionAt, api.ErrForm)
	}
}

// TestR1LayerThreeFirst holds layer 3's error ahead of all others, at each length.
func TestR1LayerThreeFirst(t *testing.T) {
	for _, f := range forms {
		for at := range 7 {
			for _, v := range []byte{0, 3, 255} {
				b := reference(header(f))
				for i := typeAt; i < len(b); i++ {
					b[i] = 0xee
				}
				b[at] = v
				code := api.ErrForm
				if at < 4 {
					code = api.ErrMagic
				}
				for n := at + 1; n <= len(b); n++ {
					checkSpot(t, b[:n], at, code)
				}
			}
		}
	}
}

func TestP4_2PutTellsNewMemory(t *testing.T) {
	for _, f := range forms {
		h := header(f)
		for range 3 {
			b, err := head.Put(h)
			if err != nil || !bytes.Equal(b, reference(h)) {
				t.Errorf("once the earlier ones are spoilt: %v, %v", b, err)
			}
			all := b[:cap(b)]
			for k := range all {
				all[k] = 0xee
			}
		}
		first, _ := head.Put(h)
		second, _ := head.Put(api.Head{Ident: api.Ident{Form: f}})
		if !bytes.Equal(first, reference(h)) || !bytes.Equal(second, reference(api.Head{Ident: api.Ident{Form: f}})) {
			t.Error("two answers share memory:", first, second)
		}
	}
}

func TestP4_2GetTellsNewErrors(t *testing.T) {
	wrong := reference(header(api.Form{}))
	wrong[versionAt] = 9
	for _, b := range [][]byte{nil, {1}, wrong[:30], wrong} {
		_, want := told(b)
		at, code := want.(*api.Spot).At, want.(*api.Spot).Code
		_, err := head.Get(b)
		spot, ok := err.(*api.Spot)
		if !ok {
			t.Fatalf("Get(%v): %v", b, err)
		}
		spot.At, spot.Code = 99, api.ErrWrap
		checkSpot(t, b, at, code)
	}
}

func TestR2GetChangesAndKeepsNothing(t *testing.T) {
	for _, f := range forms {
		h := header(f)
		b := append(reference(h), 12, 13)
		before := slices.Clone(b)
		for n := range len(b) + 1 {
			head.Get(b[:n])
		}
		if !bytes.Equal(b, before) {
			t.Error("what was handed in is changed:", b)
		}
		x, err := head.Get(b)
		for i := typeAt; i < len(b); i++ {
			b[i] = 0
		}
		if err != nil || x != h {
			t.Error("what was told:", x, err)
		}
		checkGet(t, b)
		checkHead(t, before, h)
	}
}

func TestP4_3PutIsGot(t *testing.T) {
	for _, f := range forms {
		for _, phnum := range []uint16{0, 1, api.Escape} {
			for _, shnum := range []uint16{0, 3, api.Escape} {
				for _, address := range []uint64{0, 1, 52, 1<<32 - 1} {
					h := header(f)
					h.Phnum, h.Shnum, h.Str = phnum, shnum, shnum-phnum
					h.Entry, h.Phoff, h.Shoff = address, address/2, address
					checkPut(t, h)
					h.Entry, h.Phoff, h.Shoff = 0, address, 0
					checkPut(t, h)
				}
			}
		}
	}
}

func FuzzP1GetNeverPanics(f *testing.F) {
	f.Add([]byte{})
	for _, form := range forms {
		b := reference(header(form))
		f.Add(b)
		f.Add(b[:30])
		f.Add(append(reference(api.Head{Ident: api.Ident{Form: form}}), 1, 2))
	}
	f.Fuzz(func(t *testing.T, b []byte) {
		before := bytes.Clone(b)
		checkGet(t, b)
		if !bytes.Equal(b, before) {
			t.Error("R2: what was handed in is changed")
		}
		if h, err := head.Get(b); err == nil {
			checkPut(t, h)
		}
	})
}

func FuzzP1PutNeverPanics(f *testing.F) {
	f.Add(false, false, uint64(1)<<32, uint64(0), uint64(0), uint64(0))
	f.Add(true, true, uint64(1)<<63, uint64(64), uint64(1)<<32, uint64(math.MaxUint64))
	f.Add(false, true, uint64(1), uint64(52), uint64(0), uint64(0xffff))
	f.Fuzz(func(t *testing.T, wide, big bool, entry, phoff, shoff, rest uint64) {
		h := api.Head{
			Ident: api.Ident{Form: api.Form{Wide: wide, Big: big}, OSABI: byte(rest), ABI: byte(rest >> 8)},
			Type:  uint16(rest >> 16), Machine: uint16(rest >> 24), Flags: uint32(rest),
			Entry: entry, Phoff: phoff, Shoff: shoff,
			Phnum: uint16(rest >> 32), Shnum: uint16(rest >> 40), Str: uint16(rest >> 48),
		}
		if !wide && (entry|phoff|shoff)>>32 != 0 {
			checkArg(t, h)
			return
		}
		checkPut(t, h)
	})
}
