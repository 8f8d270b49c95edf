package rel_test

import (
	"bytes"
	"encoding/binary"
	"errors"
	"math"
	"slices"
	"testing"

	"bezant/api"
	"bezant/rel"
)

const top uint64 = math.MaxUint64

// hold is what spoils memory, and what lies around bytes.
const hold = 0xee

// kind is a form, and whether there are adds.
type kind struct {
	f    api.Form
	adds bool
}

var narrow = []kind{{}, {f: api.Form{Big: true}}, {adds: true}, {f: api.Form{Big: true}, adds: true}}

var wide = []kind{
	{f: api.Form{Wide: true}},
	{f: api.Form{Wide: true, Big: true}},
	{f: api.Form{Wide: true}, adds: true},
	{f: api.Form{Wide: true, Big: true}, adds: true},
}

var kinds = slices.Concat(narrow, wide)

// sizeOf tells the chapter's four numbers.
func sizeOf(k kind) int {
	switch {
	case k.f.Wide && k.adds:
		return 24
	case k.f.Wide:
		return 16
	case k.adds:
		return 12
	}
	return 8
}

// widened tells the kind of 64 bits that is otherwise the same.
func widened(k kind) kind {
	k.f.Wide = true
	return k
}

// field tells where a kind has a number, and how many bytes it has there.
type field struct {
	name  string
	at, n int
	get   func(api.Rel) uint64
	set   func(*api.Rel, uint64)
}

// fields tells all of them by hand: Sym and Type stand apart here, each with bytes of its own.
func fields(k kind) []field {
	all := []field{
		{"Off", 0, 4, func(r api.Rel) uint64 { return r.Off }, func(r *api.Rel, v uint64) { r.Off = v }},
		{"Sym", 5, 3, func(r api.Rel) uint64 { return uint64(r.Sym) }, func(r *api.Rel, v uint64) { r.Sym = uint32(v) }},
		{"Type", 4, 1, func(r api.Rel) uint64 { return uint64(r.Type) }, func(r *api.Rel, v uint64) { r.Type = uint32(v) }},
		{"Add", 8, 4, func(r api.Rel) uint64 { return uint64(r.Add) }, func(r *api.Rel, v uint64) { r.Add = int64(int32(uint32(v))) }},
	}
	if k.f.Big {
		all[1].at, all[2].at = 4, 7
	}
	if k.f.Wide {
		all[3].set = func(r *api.Rel, v uint64) { r.Add = int64(v) }
		all[0].n, all[1].n, all[2].n, all[3].n = 8, 4, 4, 8
		all[1].at, all[2].at, all[3].at = 12, 8, 16
		if k.f.Big {
			all[1].at, all[2].at = 8, 12
		}
	}
	if !k.adds {
		return all[:3]
	}
	return all
}

// bytesOf tells a number's bytes by the library.
func bytesOf(v uint64, n int, big bool) []byte {
	if big {
		return binary.BigEndian.AppendUint64(nil, v)[8-n:]
	}
	return binary.LittleEndian.AppendUint64(nil, v)[:n]
}

// numberOf tells the number of bytes by the library.
func numberOf(b []byte, big bool) uint64 {
	c := make([]byte, 8)
	if big {
		copy(c[8-len(b):], b)
		return binary.BigEndian.Uint64(c)
	}
	copy(c, b)
	return binary.LittleEndian.Uint64(c)
}

// reference tells the bytes of relocations that may be.
func reference(l []api.Rel, k kind) []byte {
	b := make([]byte, len(l)*sizeOf(k))
	for i, r := range l {
		for _, x := range fields(k) {
			copy(b[i*sizeOf(k)+x.at:], bytesOf(x.get(r), x.n, k.f.Big))
		}
	}
	return b
}

// told tells the relocations that bytes are, all of them whole.
func told(b []byte, k kind) []api.Rel {
	var l []api.Rel
	for at := 0; at < len(b); at += sizeOf(k) {
		var r api.Rel
		for _, x := range fields(k) {
			x.set(&r, numberOf(b[at+x.at:at+x.at+x.n], k.f.Big))
		}
		l = append(l, r)
	}
	return l
}

// full tells one whose bytes are all other ones, in all of their places; its Add is below 0.
func full(k kind) api.Rel {
	r := api.Rel{Off: 0xa1a2a3a4, Sym: 0xb1b2b3, Type: 0xc1, Add: -0x0e0d0c0c}
	if k.f.Wide {
		r = api.Rel{Off: 0xa1a2a3a4a5a6a7a8, Sym: 0xb1b2b3b4, Type: 0xc1c2c3c4, Add: -0x0e0d0c0b0a090808}
	}
	if !k.adds {
		r.Add = 0
	}
	return r
}

// noise tells so many bytes that mean nothing, the same ones each time.
func noise(n int) []byte {
	b := make([]byte, n)
	v := uint32(1)
	for i := range b {
		v = v*1664525 + 1013904223
		b[i] = byte(v >> 24)
	}
	return b
}

// several tells relocations that are all other ones, the first of them of 0s alone; every second Add is below 0.
func several(n int, k kind) []api.Rel {
	l := make([]api.Rel, n)
	for i := 1; i < n; i++ {
		l[i] = full(k)
		l[i].Off, l[i].Sym, l[i].Type = uint64(i)<<8, uint32(i), uint32(i%256)
		if k.adds {
			l[i].Add = int64(i) * int64(i%2*2-1)
		}
	}
	return l
}

// checkPut holds Put against the reference, and the first half of P9.3.
func checkPut(t *testing.T, l []api.Rel, k kind) {
	t.Helper()
	b, err := rel.Put(l, k.f, k.adds)
	if err != nil || !bytes.Equal(b, reference(l, k)) {
		t.Errorf("Put(%v, %v) = %v, %v, not %v", l, k, b, err, reference(l, k))
		return
	}
	if x, err := rel.All(b, k.f, k.adds); err != nil || !slices.Equal(x, l) {
		t.Errorf("P9.3: %v of %v is got as %v, %v", l, k, x, err)
	}
}

// checkArg holds the error, that it is the Code itself, and R3.
func checkArg(t *testing.T, l []api.Rel, k kind) {
	t.Helper()
	if b, err := rel.Put(l, k.f, k.adds); err != api.ErrArg || len(b) != 0 {
		t.Errorf("Put(%v, %v) = %v, %v, not ErrArg", l, k, b, err)
	}
}

// checkShort holds the error, that it is a pointer to a Spot, its place, and R3.
func checkShort(t *testing.T, b []byte, k kind, at int) {
	t.Helper()
	l, err := rel.All(b, k.f, k.adds)
	spot, ok := err.(*api.Spot)
	if !ok || spot == nil || *spot != (api.Spot{At: at, Code: api.ErrShort}) || len(l) != 0 {
		t.Errorf("All of %d bytes, %v = %v, %v, not ErrShort at %d", len(b), k, l, err, at)
	}
}

// checkAll holds All against the chapter's words, and the second half of P9.3.
func checkAll(t *testing.T, b []byte, k kind) {
	t.Helper()
	at := 0
	for at+sizeOf(k) <= len(b) {
		at += sizeOf(k)
	}
	if at != len(b) {
		checkShort(t, b, k, at)
		return
	}
	l, err := rel.All(b, k.f, k.adds)
	if err != nil || !slices.Equal(l, told(b, k)) {
		t.Errorf("All(%v, %v) = %v, %v, not %v", b, k, l, err, told(b, k))
		return
	}
	if c, err := rel.Put(l, k.f, k.adds); err != nil || !bytes.Equal(c, b) {
		t.Errorf("P9.3: %v of %v, got and put, is %v, %v", b, k, c, err)
	}
}

func TestP9_1Size(t *testing.T) {
	for k, want := range map[kind]int{
		{}:                                      8,
		{f: api.Form{Big: true}}:                8,
		{adds: true}:                            12,
		{api.Form{Big: true}, true}:             12,
		{f: api.Form{Wide: true}}:               16,
		{f: api.Form{Wide: true, Big: true}}:    16,
		{api.Form{Wide: true}, true}:            24,
		{api.Form{Wide: true, Big: true}, true}: 24,
	} {
		if n := rel.Size(k.f, k.adds); n != want {
			t.Errorf("Size of %v = %d, not %d", k, n, want)
		}
	}
}

// TestP9_1Example is the chapter's: one of 64 bits, with adds, has 24 bytes.
func TestP9_1Example(t *testing.T) {
	for _, big := range []bool{false, true} {
		f := api.Form{Wide: true, Big: big}
		b, err := rel.Put([]api.Rel{{Off: 1}}, f, true)
		if err != nil || len(b) != 24 || rel.Size(f, true) != 24 {
			t.Errorf("%v: %v, %v, %d", f, b, err, rel.Size(f, true))
		}
	}
}

// byHand holds the bytes themselves, so that the reference isn't all that holds them.
var byHand = map[kind][]byte{
	{}:                       {0xa4, 0xa3, 0xa2, 0xa1, 0xc1, 0xb3, 0xb2, 0xb1},
	{f: api.Form{Big: true}}: {0xa1, 0xa2, 0xa3, 0xa4, 0xb1, 0xb2, 0xb3, 0xc1},
	{adds: true}: {
		0xa4, 0xa3, 0xa2, 0xa1, 0xc1, 0xb3, 0xb2, 0xb1,
		0xf4, 0xf3, 0xf2, 0xf1,
	},
	{api.Form{Big: true}, true}: {
		0xa1, 0xa2, 0xa3, 0xa4, 0xb1, 0xb2, 0xb3, 0xc1,
		0xf1, 0xf2, 0xf3, 0xf4,
	},
	{f: api.Form{Wide: true}}: {
		0xa8, 0xa7, 0xa6, 0xa5, 0xa4, 0xa3, 0xa2, 0xa1,
		0xc4, 0xc3, 0xc2, 0xc1, 0xb4, 0xb3, 0xb2, 0xb1,
	},
	{f: api.Form{Wide: true, Big: true}}: {
		0xa1, 0xa2, 0xa3, 0xa4, 0xa5, 0xa6, 0xa7, 0xa8,
		0xb1, 0xb2, 0xb3, 0xb4, 0xc1, 0xc2, 0xc3, 0xc4,
	},
	{api.Form{Wide: true}, true}: {
		0xa8, 0xa7, 0xa6, 0xa5, 0xa4, 0xa3, 0xa2, 0xa1,
		0xc4, 0xc3, 0xc2, 0xc1, 0xb4, 0xb3, 0xb2, 0xb1,
		0xf8, 0xf7, 0xf6, 0xf5, 0xf4, 0xf3, 0xf2, 0xf1,
	},
	{api.Form{Wide: true, Big: true}, true}: {
		0xa1, 0xa2, 0xa3, 0xa4, 0xa5, 0xa6, 0xa7, 0xa8,
		0xb1, 0xb2, 0xb3, 0xb4, 0xc1, 0xc2, 0xc3, 0xc4,
		0xf1, 0xf2, 0xf3, 0xf4, 0xf5, 0xf6, 0xf7, 0xf8,
	},
}

func TestP9_1ByHand(t *testing.T) {
	for k, want := range byHand {
		l := []api.Rel{full(k), {}, full(k)}
		b := slices.Concat(want, make([]byte, len(want)), want)
		if c, err := rel.Put(l, k.f, k.adds); err != nil || !bytes.Equal(c, b) {
			t.Errorf("Put of %v = %v, %v", k, c, err)
		}
		if x, err := rel.All(b, k.f, k.adds); err != nil || !slices.Equal(x, l) {
			t.Errorf("All of %v = %v, %v", k, x, err)
		}
	}
}

func TestP9_1NoRelocations(t *testing.T) {
	for _, k := range kinds {
		for _, l := range [][]api.Rel{nil, {}} {
			if b, err := rel.Put(l, k.f, k.adds); err != nil || len(b) != 0 {
				t.Errorf("Put of none, %v = %v, %v", k, b, err)
			}
		}
		for _, b := range [][]byte{nil, {}} {
			if l, err := rel.All(b, k.f, k.adds); err != nil || len(l) != 0 {
				t.Errorf("All of no bytes, %v = %v, %v", k, l, err)
			}
		}
	}
}

// TestP9_1HowMany puts and reads up to 40 relocations, and those that are of 0s alone.
func TestP9_1HowMany(t *testing.T) {
	for _, k := range kinds {
		for n := range 41 {
			checkPut(t, several(n, k), k)
			checkPut(t, make([]api.Rel, n), k)
			checkAll(t, noise(n*sizeOf(k)), k)
		}
	}
}

func TestP9_1VeryMany(t *testing.T) {
	for _, k := range kinds {
		l := several(100000, k)
		checkPut(t, l, k)
		b := reference(l, k)
		checkShort(t, b[:len(b)-1], k, len(b)-sizeOf(k))
	}
}

// TestP9_1EachNumberAlone sets each number to each power of two, and to those next to it, that it has the bytes for.
func TestP9_1EachNumberAlone(t *testing.T) {
	for _, k := range kinds {
		for _, x := range fields(k) {
			for bit := range 8 * x.n {
				for _, v := range []uint64{1<<bit - 1, 1 << bit, 1<<bit | 1, top >> (64 - 8*x.n) &^ (1 << bit)} {
					alone, among := api.Rel{}, full(k)
					x.set(&alone, v)
					x.set(&among, v)
					checkPut(t, []api.Rel{alone}, k)
					checkPut(t, []api.Rel{full(k), among, alone}, k)
				}
			}
			most := full(k)
			x.set(&most, top>>(64-8*x.n))
			checkPut(t, []api.Rel{most}, k)
		}
	}
}

// TestP9_1EachByteAlone reads each byte of two relocations as all of 0 to 255, with nothing and with all bits set around it.
func TestP9_1EachByteAlone(t *testing.T) {
	for _, k := range kinds {
		for _, around := range []byte{0, 255} {
			b := bytes.Repeat([]byte{around}, 2*sizeOf(k))
			for i := range b {
				for v := range 256 {
					b[i] = byte(v)
					checkAll(t, b, k)
				}
				b[i] = around
			}
		}
	}
}

// edges tells those that have the least and the greatest numbers that may be.
func edges(k kind) []api.Rel {
	most := api.Rel{Off: 1<<32 - 1, Sym: 1<<24 - 1, Type: 255}
	adds := []int64{0, 1, -1, 2, -2, 127, 128, -128, -129, 1<<31 - 1, -1 << 31, 1<<31 - 2, -1<<31 + 1}
	if k.f.Wide {
		most = api.Rel{Off: top, Sym: math.MaxUint32, Type: math.MaxUint32}
		adds = append(adds, 1<<31, -1<<31-1, 1<<32-1, 1<<32, -1<<32, math.MaxInt64, math.MinInt64, math.MaxInt64-1, math.MinInt64+1)
	}
	if !k.adds {
		adds = adds[:1]
	}
	var l []api.Rel
	for choice := range 1 << 3 {
		for _, add := range adds {
			r := api.Rel{Add: add}
			if choice&1 != 0 {
				r.Off = most.Off
			}
			if choice&2 != 0 {
				r.Sym = most.Sym
			}
			if choice&4 != 0 {
				r.Type = most.Type
			}
			l = append(l, r)
		}
	}
	return l
}

func TestP9_1Edges(t *testing.T) {
	for _, k := range kinds {
		l := edges(k)
		checkPut(t, l, k)
		for _, r := range l {
			checkPut(t, []api.Rel{r}, k)
			checkPut(t, []api.Rel{full(k), r, {}}, k)
		}
	}
}

// TestP9_1EdgesByHand holds the bytes that the greatest and the least numbers are.
func TestP9_1EdgesByHand(t *testing.T) {
	for _, c := range []struct {
		k    kind
		r    api.Rel
		want []byte
	}{
		{kind{}, api.Rel{Sym: 1<<24 - 1}, []byte{0, 0, 0, 0, 0, 255, 255, 255}},
		{kind{}, api.Rel{Type: 255}, []byte{0, 0, 0, 0, 255, 0, 0, 0}},
		{narrow[1], api.Rel{Sym: 1<<24 - 1}, []byte{0, 0, 0, 0, 255, 255, 255, 0}},
		{narrow[1], api.Rel{Type: 255}, []byte{0, 0, 0, 0, 0, 0, 0, 255}},
		{narrow[2], api.Rel{Add: -1 << 31}, []byte{0, 0, 0, 0, 0, 0, 0, 0, 0, 0, 0, 128}},
		{narrow[2], api.Rel{Add: 1<<31 - 1}, []byte{0, 0, 0, 0, 0, 0, 0, 0, 255, 255, 255, 127}},
		{narrow[2], api.Rel{Add: -1}, []byte{0, 0, 0, 0, 0, 0, 0, 0, 255, 255, 255, 255}},
		{narrow[3], api.Rel{Add: -1 << 31}, []byte{0, 0, 0, 0, 0, 0, 0, 0, 128, 0, 0, 0}},
		{narrow[3], api.Rel{Add: -2}, []byte{0, 0, 0, 0, 0, 0, 0, 0, 255, 255, 255, 254}},
		{wide[0], api.Rel{Sym: 1 << 24, Type: 256}, []byte{0, 0, 0, 0, 0, 0, 0, 0, 0, 1, 0, 0, 0, 0, 0, 1}},
		{wide[1], api.Rel{Sym: 1 << 24, Type: 256}, []byte{0, 0, 0, 0, 0, 0, 0, 0, 1, 0, 0, 0, 0, 0, 1, 0}},
		{wide[0], api.Rel{Sym: math.MaxUint32}, []byte{0, 0, 0, 0, 0, 0, 0, 0, 0, 0, 0, 0, 255, 255, 255, 255}},
		{wide[1], api.Rel{Type: math.MaxUint32}, []byte{0, 0, 0, 0, 0, 0, 0, 0, 0, 0, 0, 0, 255, 255, 255, 255}},
		{wide[2], api.Rel{Add: math.MinInt64}, append(make([]byte, 16), 0, 0, 0, 0, 0, 0, 0, 128)},
		{wide[2], api.Rel{Add: math.MaxInt64}, append(make([]byte, 16), 255, 255, 255, 255, 255, 255, 255, 127)},
		{wide[2], api.Rel{Add: 1 << 31}, append(make([]byte, 16), 0, 0, 0, 128, 0, 0, 0, 0)},
		{wide[3], api.Rel{Add: math.MinInt64}, append(make([]byte, 16), 128, 0, 0, 0, 0, 0, 0, 0)},
		{wide[3], api.Rel{Add: -1<<31 - 1}, append(make([]byte, 16), 255, 255, 255, 255, 127, 255, 255, 255)},
	} {
		if b, err := rel.Put([]api.Rel{c.r}, c.k.f, c.k.adds); err != nil || !bytes.Equal(b, c.want) {
			t.Errorf("Put of %v, %v = %v, %v, not %v", c.r, c.k, b, err, c.want)
		}
		if l, err := rel.All(c.want, c.k.f, c.k.adds); err != nil || !slices.Equal(l, []api.Rel{c.r}) {
			t.Errorf("All of %v, %v = %v, %v, not %v", c.want, c.k, l, err, c.r)
		}
	}
}

// wrong is a number that may not be in 32 bits, and the nearest one that may.
type wrong struct {
	bad, good api.Rel
}

// wrongs tells them: one beyond the edge, each bit beyond it, and those whose low bits look right.
func wrongs() []wrong {
	var all []wrong
	for bit := 32; bit < 64; bit++ {
		for _, v := range []uint64{1 << bit, 1<<bit | 1, 1<<bit | 0xffffffff, top << bit} {
			all = append(all, wrong{api.Rel{Off: v}, api.Rel{Off: 1<<32 - 1}})
		}
	}
	for bit := 24; bit < 32; bit++ {
		for _, v := range []uint32{1 << bit, 1<<bit | 1, 1<<bit | 0xffffff, math.MaxUint32 << bit} {
			all = append(all, wrong{api.Rel{Sym: v}, api.Rel{Sym: 1<<24 - 1}})
		}
	}
	for bit := 8; bit < 32; bit++ {
		for _, v := range []uint32{1 << bit, 1<<bit | 1, 1<<bit | 255, math.MaxUint32 << bit} {
			all = append(all, wrong{api.Rel{Type: v}, api.Rel{Type: 255}})
		}
	}
	all = append(all,
		wrong{api.Rel{Off: top}, api.Rel{Off: 1<<32 - 1}},
		wrong{api.Rel{Sym: math.MaxUint32}, api.Rel{Sym: 1<<24 - 1}},
		wrong{api.Rel{Type: math.MaxUint32}, api.Rel{Type: 255}},
	)
	return all
}

// wrongAdds tells those beyond each edge of 32 bits.
func wrongAdds() []wrong {
	var all []wrong
	for bit := 31; bit < 63; bit++ {
		for _, v := range []int64{1 << bit, 1<<bit | 1, 1<<bit | 1<<31, math.MaxInt64 &^ (1<<bit - 1)} {
			all = append(all,
				wrong{api.Rel{Add: v}, api.Rel{Add: 1<<31 - 1}},
				wrong{api.Rel{Add: -v - 1}, api.Rel{Add: -1 << 31}},
			)
		}
	}
	return append(all,
		wrong{api.Rel{Add: math.MaxInt64}, api.Rel{Add: 1<<31 - 1}},
		wrong{api.Rel{Add: math.MinInt64}, api.Rel{Add: -1 << 31}},
		wrong{api.Rel{Add: 1<<32 - 1}, api.Rel{Add: -1}},
		wrong{api.Rel{Add: 1 << 32}, api.Rel{Add: 0}},
		wrong{api.Rel{Add: -1 << 32}, api.Rel{Add: 0}},
	)
}

// wrongsOf tells those that a kind of 32 bits has.
func wrongsOf(k kind) []wrong {
	if k.adds {
		return append(wrongs(), wrongAdds()...)
	}
	return wrongs()
}

// TestP9_1NoLongerFits takes each wrong number alone, and the same one in 64 bits, where it may be.
func TestP9_1NoLongerFits(t *testing.T) {
	for _, k := range narrow {
		for _, w := range wrongsOf(k) {
			checkArg(t, []api.Rel{w.bad}, k)
			checkPut(t, []api.Rel{w.good}, k)
			checkPut(t, []api.Rel{w.bad}, widened(k))
		}
	}
}

// TestP9_1NoLongerFitsAmongOthers lays a wrong one in each place of a list, ahead of, among, and behind others.
func TestP9_1NoLongerFitsAmongOthers(t *testing.T) {
	for _, k := range narrow {
		for n := 1; n < 6; n++ {
			for i := range n {
				for _, w := range wrongsOf(k) {
					l := several(n, k)
					l[i] = w.bad
					checkArg(t, l, k)
					checkPut(t, l, widened(k))
					l[i] = w.good
					checkPut(t, l, k)
				}
			}
		}
	}
}

// TestP9_1AddWithoutAdds takes each Add but 0, alone and in each place of a list: it may be with adds alone.
func TestP9_1AddWithoutAdds(t *testing.T) {
	adds := []int64{math.MaxInt64, math.MinInt64, 1<<31 - 1, -1 << 31, 1<<32 - 1}
	for bit := range 63 {
		adds = append(adds, 1<<bit, -1<<bit)
	}
	for _, k := range []kind{narrow[0], narrow[1], wide[0], wide[1]} {
		with := kind{f: k.f, adds: true}
		for _, add := range adds {
			checkArg(t, []api.Rel{{Add: add}}, k)
			for n := 1; n < 5; n++ {
				for i := range n {
					l := several(n, k)
					l[i].Add = add
					checkArg(t, l, k)
					if k.f.Wide || add == int64(int32(add)) {
						checkPut(t, l, with)
					} else {
						checkArg(t, l, with)
					}
					l[i].Add = 0
					checkPut(t, l, k)
				}
			}
		}
	}
}

// TestR1SeveralNoLongerFit takes each choice of the wrong numbers of two relocations: the answer is one.
func TestR1SeveralNoLongerFit(t *testing.T) {
	spoil := []func(*api.Rel){
		func(r *api.Rel) { r.Off = 1 << 32 },
		func(r *api.Rel) { r.Sym = 1 << 24 },
		func(r *api.Rel) { r.Type = 256 },
		func(r *api.Rel) { r.Add = 1 << 31 },
	}
	for _, k := range kinds {
		for choice := range 1 << 8 {
			l := several(3, narrow[0])
			for i := range 8 {
				if choice>>i&1 == 1 {
					spoil[i%4](&l[1+i/4])
				}
			}
			added := choice&0x88 != 0
			if choice != 0 && !k.f.Wide || added && !k.adds {
				checkArg(t, l, k)
			} else {
				checkPut(t, l, k)
			}
		}
	}
}

// TestP9_1EachSymAndType takes each Type with edges of Sym, so that neither spills over into the other.
func TestP9_1EachSymAndType(t *testing.T) {
	for _, k := range kinds {
		var l []api.Rel
		for low := range uint32(256) {
			for bit := range 25 {
				l = append(l, api.Rel{Sym: 1<<bit - 1, Type: low})
			}
		}
		checkPut(t, l, k)
	}
}

// TestP9_1AddsAreSigned reads the same four bytes of 32 bits, and as the lower half of eight, as other numbers.
func TestP9_1AddsAreSigned(t *testing.T) {
	for _, k := range []kind{narrow[2], narrow[3]} {
		b := append(make([]byte, 8), bytesOf(0xfffffffe, 4, k.f.Big)...)
		l, err := rel.All(b, k.f, true)
		if err != nil || len(l) != 1 || l[0] != (api.Rel{Add: -2}) {
			t.Errorf("All of %v, %v = %v, %v", b, k, l, err)
		}
		w := widened(k)
		b = append(make([]byte, 16), bytesOf(0xfffffffe, 8, k.f.Big)...)
		l, err = rel.All(b, w.f, true)
		if err != nil || len(l) != 1 || l[0] != (api.Rel{Add: 0xfffffffe}) {
			t.Errorf("All of %v, %v = %v, %v", b, w, l, err)
		}
	}
}

// TestP9_1NoAddIsRead holds that without adds Add is 0, whatever the bytes are.
func TestP9_1NoAddIsRead(t *testing.T) {
	for _, k := range kinds {
		for _, b := range [][]byte{noise(240), bytes.Repeat([]byte{255}, 240)} {
			l, err := rel.All(b, k.f, false)
			if err != nil || len(l) != 240/sizeOf(kind{f: k.f}) {
				t.Errorf("All of %v: %v, %v", k.f, l, err)
			}
			for _, r := range l {
				if r.Add != 0 {
					t.Errorf("%v of %v", r, k.f)
				}
			}
		}
	}
}

// TestP9_1EachLength cuts bytes off at each length: At is where the one begins that isn't whole.
func TestP9_1EachLength(t *testing.T) {
	for _, k := range kinds {
		n := sizeOf(k)
		b := reference(slices.Repeat([]api.Rel{full(k)}, 5), k)
		for have := range len(b) + 1 {
			cut := slices.Clip(b[:have])
			checkAll(t, cut, k)
			if have%n == 0 {
				if l, err := rel.All(cut, k.f, k.adds); err != nil || len(l) != have/n {
					t.Errorf("%d bytes of %v: %v, %v", have, k, l, err)
				}
			} else {
				checkShort(t, cut, k, have/n*n)
			}
		}
	}
}

// TestP9_1LengthOfTheKind takes lengths that are whole in some kinds alone, or in all.
func TestP9_1LengthOfTheKind(t *testing.T) {
	for _, big := range []bool{false, true} {
		f, w := api.Form{Big: big}, api.Form{Wide: true, Big: big}
		checkShort(t, noise(12), kind{f: f}, 8)
		checkShort(t, noise(8), kind{f, true}, 0)
		checkShort(t, noise(16), kind{f, true}, 12)
		checkShort(t, noise(8), kind{f: w}, 0)
		checkShort(t, noise(12), kind{f: w}, 0)
		checkShort(t, noise(24), kind{f: w}, 16)
		checkShort(t, noise(16), kind{w, true}, 0)
		checkShort(t, noise(32), kind{w, true}, 24)
		for _, k := range []kind{{f: f}, {f, true}, {f: w}, {w, true}} {
			if l, err := rel.All(noise(48), k.f, k.adds); err != nil || len(l) != 48/sizeOf(k) {
				t.Errorf("48 bytes of %v: %v, %v", k, l, err)
			}
		}
	}
}

// TestP9_1LengthNotCapacity holds that bytes behind the end aren't read.
func TestP9_1LengthNotCapacity(t *testing.T) {
	for _, k := range kinds {
		n := sizeOf(k)
		b := reference(several(3, k), k)
		checkShort(t, b[:n-1], k, 0)
		checkShort(t, b[:n+1], k, n)
		checkShort(t, b[:2*n-1], k, n)
		checkAll(t, b[:0], k)
		checkAll(t, b[:n], k)
		checkAll(t, b[n:2*n], k)
	}
}

// TestR1ShortWhateverTheBytes holds that what is cut off is short, whatever stands ahead of it.
func TestR1ShortWhateverTheBytes(t *testing.T) {
	for _, k := range kinds {
		n := sizeOf(k)
		for _, v := range []byte{0, 1, 255} {
			for have := 1; have < n; have++ {
				checkShort(t, bytes.Repeat([]byte{v}, have), k, 0)
				checkShort(t, bytes.Repeat([]byte{v}, 3*n+have), k, 3*n)
			}
		}
	}
}

// TestErrorsAsTold holds that one is the Code itself, and that the other one is a Spot, whose Code is found too.
func TestErrorsAsTold(t *testing.T) {
	var code api.Code
	var spot *api.Spot
	_, err := rel.Put([]api.Rel{{}, {Type: 256}}, api.Form{}, true)
	if !errors.Is(err, api.ErrArg) || !errors.As(err, &code) || code != api.ErrArg || errors.As(err, &spot) {
		t.Errorf("%v, not ErrArg itself", err)
	}
	_, err = rel.All(noise(25), api.Form{Wide: true}, true)
	if !errors.Is(err, api.ErrShort) || !errors.As(err, &spot) || spot.At != 24 || spot.Code != api.ErrShort {
		t.Errorf("%v, not ErrShort as a Spot at 24", err)
	}
}

func TestP9_2PutTellsNewMemory(t *testing.T) {
	for _, k := range kinds {
		l := several(3, k)
		want := reference(l, k)
		for range 3 {
			b, err := rel.Put(l, k.f, k.adds)
			if err != nil || !bytes.Equal(b, want) {
				t.Errorf("once the earlier ones are spoilt: %v, %v", b, err)
			}
			all := b[:cap(b)]
			for i := range all {
				all[i] = hold
			}
		}
		first, _ := rel.Put(l, k.f, k.adds)
		second, _ := rel.Put(make([]api.Rel, 3), k.f, k.adds)
		if !bytes.Equal(first, want) || !bytes.Equal(second, make([]byte, 3*sizeOf(k))) {
			t.Error("two answers share memory:", first, second)
		}
	}
}

func TestP9_2AllTellsNewMemory(t *testing.T) {
	for _, k := range kinds {
		want := several(3, k)
		b := reference(want, k)
		for range 3 {
			l, err := rel.All(b, k.f, k.adds)
			if err != nil || !slices.Equal(l, want) {
				t.Errorf("once the earlier ones are spoilt: %v, %v", l, err)
			}
			all := l[:cap(l)]
			for i := range all {
				all[i] = api.Rel{Off: hold, Add: hold}
			}
		}
		first, _ := rel.All(b, k.f, k.adds)
		second, _ := rel.All(make([]byte, len(b)), k.f, k.adds)
		if !slices.Equal(first, want) || !slices.Equal(second, make([]api.Rel, 3)) {
			t.Error("two answers share memory:", first, second)
		}
	}
}

// TestP9_2AllTellsNewSpots holds that a Spot that is spoilt spoils no later one.
func TestP9_2AllTellsNewSpots(t *testing.T) {
	for _, k := range kinds {
		for range 3 {
			_, err := rel.All(noise(3*sizeOf(k)-1), k.f, k.adds)
			var spot *api.Spot
			if !errors.As(err, &spot) || *spot != (api.Spot{At: 2 * sizeOf(k), Code: api.ErrShort}) {
				t.Fatalf("%v of %v", err, k)
			}
			*spot = api.Spot{}
		}
	}
}

func TestR2PutChangesAndKeepsNothing(t *testing.T) {
	for _, k := range kinds {
		l := several(5, k)
		before := slices.Clone(l)
		b, err := rel.Put(l[:3], k.f, k.adds)
		if !slices.Equal(l, before) {
			t.Error("what was handed in is changed:", l)
		}
		clear(l)
		if err != nil || !bytes.Equal(b, reference(before[:3], k)) {
			t.Error("what was told:", b, err)
		}
		checkPut(t, l, k)
		checkPut(t, before, k)
	}
}

// TestR2PutChangesNothingWithAnError holds it of a list whose last one may not be.
func TestR2PutChangesNothingWithAnError(t *testing.T) {
	for _, k := range narrow {
		l := append(several(4, k), api.Rel{Sym: 1 << 24})
		before := slices.Clone(l)
		checkArg(t, l, k)
		if !slices.Equal(l, before) {
			t.Error("what was handed in is changed:", l)
		}
		checkPut(t, l[:4], k)
	}
}

func TestR2AllChangesAndKeepsNothing(t *testing.T) {
	for _, k := range kinds {
		want := several(4, k)
		b := append(reference(want, k), 1, 2, 3)
		before := slices.Clone(b)
		for n := range len(b) + 1 {
			rel.All(b[:n], k.f, k.adds)
		}
		l, err := rel.All(b[:4*sizeOf(k)], k.f, k.adds)
		if !bytes.Equal(b, before) {
			t.Error("what was handed in is changed:", b)
		}
		clear(b)
		if err != nil || !slices.Equal(l, want) {
			t.Error("what was told:", l, err)
		}
		checkAll(t, b, k)
		checkAll(t, before, k)
	}
}

// TestP9_3 holds that what was put is got, and that what is got, put, is those bytes, of many bytes that mean nothing.
func TestP9_3(t *testing.T) {
	b := noise(700)
	for _, k := range kinds {
		for from := range 100 {
			for to := from; to <= len(b); to += 37 {
				checkAll(t, b[from:to], k)
			}
			l, err := rel.All(b[from:from+24*sizeOf(k)], k.f, k.adds)
			if err != nil || len(l) != 24 {
				t.Fatal(l, err)
			}
			checkPut(t, l, k)
		}
	}
}

// TestP9_3OfTheOtherKinds holds that a kind says how relocations are written, not what they are.
func TestP9_3OfTheOtherKinds(t *testing.T) {
	l := several(6, narrow[0])
	for _, k := range kinds {
		checkPut(t, l, k)
		b := slices.Repeat(reference(l, k), 3)
		for _, other := range kinds {
			checkAll(t, b, other)
		}
	}
}

func FuzzP1AllNeverPanics(f *testing.F) {
	f.Add([]byte{})
	f.Add(noise(17))
	for _, k := range kinds {
		f.Add(reference(several(3, k), k))
	}
	f.Fuzz(func(t *testing.T, b []byte) {
		before := bytes.Clone(b)
		for _, k := range kinds {
			checkAll(t, b, k)
		}
		if !bytes.Equal(b, before) {
			t.Error("R2: what was handed in is changed")
		}
	})
}

// mayBe tells it by the chapter's words.
func mayBe(r api.Rel, k kind) bool {
	if r.Add != 0 && !k.adds {
		return false
	}
	if k.f.Wide {
		return true
	}
	return r.Off < 1<<32 && r.Sym < 1<<24 && r.Type < 256 && -1<<31 <= r.Add && r.Add <= 1<<31-1
}

func FuzzP1PutNeverPanics(f *testing.F) {
	f.Add(uint64(0), uint32(0), uint32(0), int64(0))
	f.Add(top, uint32(math.MaxUint32), uint32(math.MaxUint32), int64(math.MinInt64))
	f.Add(uint64(1)<<32, uint32(1)<<24, uint32(256), int64(1)<<31)
	f.Add(uint64(1)<<32-1, uint32(1)<<24-1, uint32(255), int64(-1)<<31)
	f.Fuzz(func(t *testing.T, off uint64, sym, typ uint32, add int64) {
		r := api.Rel{Off: off, Sym: sym, Type: typ, Add: add}
		for _, k := range kinds {
			l := []api.Rel{{}, r}
			if mayBe(r, k) {
				checkPut(t, l, k)
			} else {
				checkArg(t, l, k)
			}
		}
	})
}
