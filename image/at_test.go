package image_test

import (
	"math"
	"testing"

	"bezant/api"
	"bezant/image"
)

// last is the last address there is.
const last = math.MaxUint64

// at holds what At answers at an address that is had.
func at(t *testing.T, x api.Image, addr uint64, want byte, flags uint32) {
	t.Helper()
	if v, f, ok := image.At(x, addr); v != want || f != flags || !ok {
		t.Errorf("at %d: %d, %d, %v, not %d, %d, of %s", addr, v, f, ok, want, flags, brief(x))
	}
}

// none holds that no region has an address.
func none(t *testing.T, x api.Image, addr uint64) {
	t.Helper()
	if v, f, ok := image.At(x, addr); v != 0 || f != 0 || ok {
		t.Errorf("at %d: %d, %d, %v, not none, of %s", addr, v, f, ok, brief(x))
	}
}

func TestP17_1At(t *testing.T) {
	x := of(101, region(100, 5, 6, 7, 8, 9))
	for i, want := range []byte{7, 8, 9, 0, 0} {
		at(t, x, 100+uint64(i), want, 6)
	}
	for _, addr := range []uint64{0, 1, 50, 98, 99, 105, 106, 107, 200, 355, 356, 1<<32 + 100, 1<<63 + 100, last - 156, last - 1, last} {
		none(t, x, addr)
	}
}

func TestP17_1AtNoRegions(t *testing.T) {
	for _, x := range []api.Image{{}, {Entry: 5}, {Entry: last, Regions: []api.Region{}}} {
		for _, addr := range []uint64{0, 1, 5, 1 << 32, last - 1, last} {
			none(t, x, addr)
		}
	}
}

// TestP17_1AtSizes holds Sizes that are less than, as many as, and more than the bytes there are.
func TestP17_1AtSizes(t *testing.T) {
	for n := range 5 {
		for size := range uint64(8) {
			x := of(0, region(1000, size, 3, fill(n, 50)...))
			none(t, x, 999)
			for i := range uint64(10) {
				if i >= size {
					none(t, x, 1000+i)
				} else if i >= uint64(n) {
					at(t, x, 1000+i, 0, 3)
				} else {
					at(t, x, 1000+i, byte(51+i), 3)
				}
			}
		}
	}
}

// TestP17_1AtFlags holds that Flags are told as they stand, and that a byte that is 0 and Flags of 0 are had, too.
func TestP17_1AtFlags(t *testing.T) {
	for _, flags := range []uint32{0, 1, 2, 4, 7, 1 << 31, math.MaxUint32} {
		x := of(0, region(3, 4, flags, 0, 255))
		at(t, x, 3, 0, flags)
		at(t, x, 4, 255, flags)
		at(t, x, 5, 0, flags)
		at(t, x, 6, 0, flags)
		none(t, x, 7)
	}
}

// TestP17_1AtSeveral holds regions that meet, that lie over one another, and that stand in any order: the first one that has the address tells.
func TestP17_1AtSeveral(t *testing.T) {
	a, b := region(10, 3, 1, 101, 102, 103), region(13, 3, 2, 201, 202, 203)
	for _, x := range []api.Image{of(0, a, b), of(0, b, a)} {
		at(t, x, 10, 101, 1)
		at(t, x, 12, 103, 1)
		at(t, x, 13, 201, 2)
		at(t, x, 15, 203, 2)
		none(t, x, 9)
		none(t, x, 16)
	}
	// The first one's byte, also where that is a 0 behind its bytes, and the other one has bytes there.
	c := region(11, 4, 3, 55)
	at(t, of(0, c, a, b), 11, 55, 3)
	at(t, of(0, c, a, b), 12, 0, 3)
	at(t, of(0, c, a, b), 14, 0, 3)
	at(t, of(0, c, a, b), 10, 101, 1)
	at(t, of(0, c, a, b), 15, 203, 2)
	at(t, of(0, a, c, b), 12, 103, 1)
	at(t, of(0, a, c, b), 13, 0, 3)
	at(t, of(0, a, b, c), 13, 201, 2)
	at(t, of(0, a, b, c), 14, 202, 2)
	// Bytes beyond Size aren't had, and hide no other region's.
	d := region(10, 1, 4, 61, 62, 63)
	at(t, of(0, d, a), 10, 61, 4)
	at(t, of(0, d, a), 11, 102, 1)
	at(t, of(0, region(10, 0, 4, 61, 62, 63), a), 10, 101, 1)
	none(t, of(0, d), 11)
	// The same region twice, with other Flags.
	at(t, of(0, region(1, 1, 8, 9), region(1, 1, 7, 6)), 1, 9, 8)
}

// TestP17_1AtTheLastAddress holds regions that end just there, ahead of it, and such as would go beyond it.
func TestP17_1AtTheLastAddress(t *testing.T) {
	x := of(0, region(last-2, 3, 5, 1, 2, 3))
	at(t, x, last-2, 1, 5)
	at(t, x, last-1, 2, 5)
	at(t, x, last, 3, 5)
	none(t, x, last-3)
	none(t, x, 0)
	x = of(0, region(last-2, 2, 5, 1, 2, 3))
	at(t, x, last-1, 2, 5)
	none(t, x, last)
	none(t, x, 0)
	for _, size := range []uint64{4, 5, 100, 1 << 32, 1 << 63, last - 2, last - 1, last} {
		x = of(0, region(last-2, size, 5, 1, 2, 3, 4, 5))
		at(t, x, last-2, 1, 5)
		at(t, x, last, 3, 5)
		for _, addr := range []uint64{0, 1, 2, 3, 1 << 32, 1<<63 - 3, last - 4, last - 3} {
			none(t, x, addr)
		}
	}
	x = of(0, region(last, 1, 5, 9))
	at(t, x, last, 9, 5)
	none(t, x, last-1)
	none(t, x, 0)
	x = of(0, region(last, last, 5))
	at(t, x, last, 0, 5)
	none(t, x, 0)
	none(t, of(0, region(last, 0, 5, 9)), last)
}

// TestP17_1AtTheFirstAddress holds regions that begin at 0, up to such as have all addresses but one.
func TestP17_1AtTheFirstAddress(t *testing.T) {
	x := of(0, region(0, 2, 5, 7))
	at(t, x, 0, 7, 5)
	at(t, x, 1, 0, 5)
	none(t, x, 2)
	none(t, x, last)
	none(t, of(0, region(0, 0, 5, 7)), 0)
	x = of(0, region(0, last, 5, 7, 8))
	at(t, x, 0, 7, 5)
	at(t, x, 1, 8, 5)
	at(t, x, 1<<32, 0, 5)
	at(t, x, last-1, 0, 5)
	none(t, x, last)
	x = of(0, region(1, last, 5, 7, 8))
	none(t, x, 0)
	at(t, x, 1, 7, 5)
	at(t, x, last, 0, 5)
}

// byteThat tells the byte at an address by going through each region's memory, one address after the other, as far as there are any.
func byteThat(x api.Image, addr uint64) (byte, uint32, bool) {
	for _, r := range x.Regions {
		for i, a := uint64(0), r.Addr; i < r.Size; i, a = i+1, a+1 {
			if a == addr {
				if i < uint64(len(r.Bytes)) {
					return r.Bytes[i], r.Flags, true
				}
				return 0, r.Flags, true
			}
			if a == last {
				break
			}
		}
	}
	return 0, 0, false
}

// TestP17_1AtAllSmall holds all lists of two and three small regions around an address, around the first one and around the last one.
func TestP17_1AtAllSmall(t *testing.T) {
	for _, base := range []uint64{0, 1 << 32, last - 5} {
		var l []api.Region
		for addr := range uint64(6) {
			for size := range uint64(4) {
				for n := range 3 {
					l = append(l, region(base+addr, size, uint32(100+len(l)), fill(n, len(l))...))
				}
			}
		}
		for i, a := range l {
			for k, b := range l {
				holdsAround(t, of(0, a, b), base)
				if i%5 == 2 && k%7 == 3 {
					for _, c := range l {
						holdsAround(t, of(0, a, b, c), base)
						holdsAround(t, of(0, a, c, b), base)
						holdsAround(t, of(0, c, a, b), base)
					}
				}
			}
		}
	}
}

// holdsAround holds the bytes of an image at some addresses, the first and the last one among them.
func holdsAround(t *testing.T, x api.Image, base uint64) {
	t.Helper()
	for i := range uint64(16) {
		addr := base + i - 4
		if want, flags, ok := byteThat(x, addr); ok {
			at(t, x, addr, want, flags)
		} else {
			none(t, x, addr)
		}
	}
}
