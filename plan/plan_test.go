package plan_test

import (
	"bytes"
	"fmt"
	"math"
	"math/big"
	"slices"
	"testing"

	"bezant/api"
	"bezant/model"
	"bezant/plan"
)

// Types that mean nothing to this layer.
const (
	otherSeg = 4
	otherSec = 1
)

// forms tells both classes in both orders.
func forms() []api.Form {
	return []api.Form{{}, {Big: true}, {Wide: true}, {Wide: true, Big: true}}
}

// each runs a test of both classes in both orders.
func each(t *testing.T, test func(t *testing.T, f api.Form)) {
	for _, f := range forms() {
		t.Run(fmt.Sprintf("%+v", f), func(t *testing.T) { test(t, f) })
	}
}

// bitsOf tells how many bits an address of a class has.
func bitsOf(f api.Form) int {
	if f.Wide {
		return 64
	}
	return 32
}

// top tells the greatest number of a class.
func top(f api.Form) uint64 { return math.MaxUint64 >> (64 - bitsOf(f)) }

// sizes tells how many bytes a class has of a header, a program header and a section header.
func sizes(f api.Form) (header, prog, sect int) {
	if f.Wide {
		return 64, 56, 64
	}
	return 52, 32, 40
}

// front tells where a model's own bytes may begin, behind the header and those of so many segments.
func front(f api.Form, segs int) int {
	header, prog, _ := sizes(f)
	return header + segs*prog
}

// up tells the next multiple of 8.
func up(n int) int {
	for n%8 != 0 {
		n++
	}
	return n
}

// own tells a place that has n bytes as its own.
func own(n int) api.Place {
	return api.Place{In: -1, Size: uint64(n), Own: bytes.Repeat([]byte{7}, n)}
}

// in tells a place in a segment.
func in(i int, off, size uint64) api.Place { return api.Place{In: i, Off: off, Size: size} }

// load tells a segment of Type Load that has n bytes, and as many in memory.
func load(vaddr, align uint64, n int) api.Seg {
	return api.Seg{Type: api.Load, Vaddr: vaddr, Memsz: uint64(n), Align: align, At: own(n)}
}

// other tells a segment of another Type.
func other(p api.Place) api.Seg { return api.Seg{Type: otherSeg, At: p} }

// sec tells a section with bytes.
func sec(p api.Place) api.Sec { return api.Sec{Type: otherSec, Size: p.Size, At: p} }

// of tells a model of a form that has these segments, and no sections.
func of(f api.Form, l ...api.Seg) api.Model { return api.Model{Ident: api.Ident{Form: f}, Segs: l} }

// with tells a model with these sections, too.
func with(m api.Model, l ...api.Sec) api.Model {
	m.Secs = l
	return m
}

// ordinary tells a model that may be, with all kinds of segments and of sections, new each time.
func ordinary(f api.Form) api.Model {
	base := uint64(1) << (bitsOf(f) - 4)
	table := []byte("\x00.text\x00.bss\x00")
	return api.Model{
		Ident: api.Ident{Form: f, OSABI: 3, ABI: 1}, Type: 3, Machine: 62, Flags: 5, Entry: base + 6,
		Segs: []api.Seg{
			{Type: api.Dynamic, Flags: 6, Vaddr: base + 0x1004, Memsz: 4, Align: 8, At: in(2, 1, 4)},
			{Type: api.Load, Flags: 5, Vaddr: base + 5, Paddr: base, Memsz: 20, Align: 64, At: own(10)},
			{Type: api.Load, Flags: 6, Vaddr: base + 0x1003, Memsz: 7, At: own(7)},
			{Type: otherSeg, Flags: 4, Align: 4, At: own(5)},
			{Type: api.Load, Flags: 6, Vaddr: base + 0x2000, Memsz: 8, Align: 8, At: own(0)},
			{Type: 0x6474e551, Flags: 6, Align: 16, At: own(0)},
		},
		Secs: []api.Sec{
			{Name: 1, Type: otherSec, Flags: 6, Addr: base + 7, Size: 6, Align: 16, At: in(1, 2, 6)},
			{Type: api.StrTab, Size: 12, Align: 1, At: api.Place{In: -1, Size: 12, Own: table}},
			{Name: 7, Type: api.NoBits, Flags: 3, Addr: base + 0x2000, Size: 8, Align: 32, At: own(0)},
			{At: own(0)},
			{Type: api.SymTab, Size: 9, Link: 2, Info: 1, Align: 64, Entsize: 16, At: own(9)},
		},
		Str: 2,
	}
}

// ordinaryPlan tells where everything stands in it, counted by hand.
func ordinaryPlan(f api.Form) plan.Plan {
	if f.Wide {
		// 64, six of 56: 400. 5 modulo 64: 453 to 463; 463 to 470; 472; 472 to 477; 480.
		// 480 to 492; 496; 496; 496 to 505. 512, six of 64.
		return plan.Plan{Phoff: 64, Shoff: 512, Size: 896, Segs: []uint64{464, 453, 463, 472, 472, 480}, Secs: []uint64{455, 480, 496, 496, 496}}
	}
	// 52, six of 32: 244. 5 modulo 64: 261 to 271; 271 to 278; 280; 280 to 285; 288.
	// 288 to 300; 304; 304; 304 to 313. 320, six of 40.
	return plan.Plan{Phoff: 52, Shoff: 320, Size: 560, Segs: []uint64{272, 261, 271, 280, 280, 288}, Secs: []uint64{263, 288, 304, 304, 304}}
}

// clone tells a model that shares no memory.
func clone(m api.Model) api.Model {
	m.Segs, m.Secs = slices.Clone(m.Segs), slices.Clone(m.Secs)
	for i := range m.Segs {
		m.Segs[i].At.Own = bytes.Clone(m.Segs[i].At.Own)
	}
	for i := range m.Secs {
		m.Secs[i].At.Own = bytes.Clone(m.Secs[i].At.Own)
	}
	return m
}

// samePlan tells whether two plans are the same; lists of no elements are.
func samePlan(a, b plan.Plan) bool {
	return a.Phoff == b.Phoff && a.Shoff == b.Shoff && a.Size == b.Size && slices.Equal(a.Segs, b.Segs) && slices.Equal(a.Secs, b.Secs)
}

// check holds what Of answers against what is told here, against the reference, and against P15.3.
func check(t *testing.T, m api.Model, want plan.Plan) {
	t.Helper()
	if x, err := reference(m); err != nil || !samePlan(x, want) {
		t.Errorf("the reference tells %+v, %v, not %+v", x, err, want)
	}
	agree(t, m)
}

// refused holds that no plan is told, and what is told in its stead.
func refused(t *testing.T, m api.Model, want error) {
	t.Helper()
	if _, err := reference(m); err != want {
		t.Errorf("the reference tells %v, not %v", err, want)
	}
	agree(t, m)
}

// agree holds what Of answers against the reference, and against P15.3.
func agree(t *testing.T, m api.Model) {
	t.Helper()
	want, wrong := reference(m)
	p, err := plan.Of(m)
	if err != wrong || !samePlan(p, want) {
		t.Errorf("Of tells %+v, %v, not %+v, %v, of %s", p, err, want, wrong, brief(m))
	}
	if err == nil {
		stands(t, m, p)
	}
}

// brief tells a model without its bytes, for there may be very many.
func brief(m api.Model) string {
	m = clone(m)
	for i := range m.Segs {
		m.Segs[i].At.Own = nil
	}
	for i := range m.Secs {
		m.Secs[i].At.Own = nil
	}
	return fmt.Sprintf("%+v", m)
}

// sizeIs holds where a model ends, if that is at MaxFile at most, and else that it is too large.
func sizeIs(t *testing.T, m api.Model, size int) {
	t.Helper()
	p, err := plan.Of(m)
	if size > 65536 {
		refused(t, m, api.ErrLarge)
		return
	}
	if err != nil || p.Size != uint64(size) {
		t.Errorf("Of tells %+v, %v, not a Size of %d, of %s", p, err, size, brief(m))
	}
	agree(t, m)
}

// The reference counts without bounds, and lays the chapter's things as one list.

// thing is one thing that is laid: size bytes, from the next place on that is like v modulo align; to keeps that place.
type thing struct {
	v, align uint64
	size     int
	to       *uint64
}

// things tells what is laid, in its order, but for what has its place in a segment.
func things(m api.Model, p *plan.Plan) []thing {
	header, prog, sect := sizes(m.Ident.Form)
	l := []thing{{0, 1, header, new(uint64)}}
	if len(m.Segs) != 0 {
		l = append(l, thing{0, 1, prog * len(m.Segs), &p.Phoff})
	}
	for i, s := range m.Segs {
		if s.Type == 1 {
			l = append(l, thing{s.Vaddr, s.Align, len(s.At.Own), &p.Segs[i]})
		}
	}
	for i, s := range m.Segs {
		if s.Type != 1 && s.At.In == -1 {
			l = append(l, thing{0, 8, len(s.At.Own), &p.Segs[i]})
		}
	}
	for i, s := range m.Secs {
		if s.At.In == -1 {
			l = append(l, thing{0, 8, len(s.At.Own), &p.Secs[i]})
		}
	}
	if len(m.Secs) != 0 {
		l = append(l, thing{0, 8, sect + sect*len(m.Secs), &p.Shoff})
	}
	return l
}

// reference tells what Of should answer; layer 14 has a reference of its own.
func reference(m api.Model) (plan.Plan, error) {
	if err := model.Check(m); err != nil {
		return plan.Plan{}, err
	}
	p := plan.Plan{Segs: make([]uint64, len(m.Segs)), Secs: make([]uint64, len(m.Secs))}
	end := new(big.Int)
	for _, x := range things(m, &p) {
		gap := new(big.Int).Sub(new(big.Int).SetUint64(x.v), end)
		if x.align != 0 {
			// Of numbers below 0 too, this is 0 or more.
			end.Add(end, gap.Mod(gap, new(big.Int).SetUint64(x.align)))
		}
		*x.to = end.Uint64()
		end.Add(end, big.NewInt(int64(x.size)))
	}
	if end.Cmp(big.NewInt(65536)) > 0 {
		return plan.Plan{}, api.ErrLarge
	}
	for i, s := range m.Segs {
		if s.At.In != -1 {
			p.Segs[i] = p.Segs[s.At.In] + s.At.Off
		}
	}
	for i, s := range m.Secs {
		if s.At.In != -1 {
			p.Secs[i] = p.Segs[s.At.In] + s.At.Off
		}
	}
	p.Size = end.Uint64()
	return p, nil
}

// stands holds P15.3, and the bounds that the chapter names, of a plan that was told.
func stands(t *testing.T, m api.Model, p plan.Plan) {
	t.Helper()
	// taken tells how many things have each byte, but for what has its place in a segment.
	taken := make([]byte, 65536)
	end := uint64(0)
	take := func(what string, at, size uint64) {
		if size > p.Size || at > p.Size-size {
			t.Fatalf("%s: %d from %d on are beyond %d bytes", what, size, at, p.Size)
		}
		for i := range size {
			if taken[at+i]++; taken[at+i] > 1 {
				t.Fatalf("%s: the byte %d is another thing's", what, at+i)
			}
		}
		end = max(end, at+size)
	}
	if p.Size > 65536 || len(p.Segs) != len(m.Segs) || len(p.Secs) != len(m.Secs) {
		t.Fatalf("no plan of %d and %d: %+v", len(m.Segs), len(m.Secs), p)
	}
	header, prog, sect := sizes(m.Ident.Form)
	take("header", 0, uint64(header))
	take("program headers", p.Phoff, uint64(prog*len(m.Segs)))
	if len(m.Secs) > 0 {
		take("section headers", p.Shoff, uint64(sect*(len(m.Secs)+1)))
	}
	for i, s := range m.Segs {
		standsAt(t, m, s.At, p, p.Segs[i], take)
		if s.Type == api.Load && (p.Segs[i]-s.Vaddr)%max(s.Align, 1) != 0 {
			t.Errorf("segment %d: %d and %d aren't alike modulo %d", i, p.Segs[i], s.Vaddr, s.Align)
		}
	}
	for i, s := range m.Secs {
		standsAt(t, m, s.At, p, p.Secs[i], take)
	}
	if p.Size != end {
		t.Errorf("Size is %d, not %d", p.Size, end)
	}
	if (len(m.Segs) == 0) != (p.Phoff == 0) || (len(m.Secs) == 0) != (p.Shoff == 0) || p.Shoff%8 != 0 {
		t.Errorf("headers are told at %d and %d", p.Phoff, p.Shoff)
	}
}

// standsAt holds one place: its own bytes are taken, and others are those of their segment.
func standsAt(t *testing.T, m api.Model, at api.Place, p plan.Plan, begin uint64, take func(string, uint64, uint64)) {
	t.Helper()
	if at.In == -1 {
		take("a place of its own", begin, at.Size)
		return
	}
	first := p.Segs[at.In]
	if begin != first+at.Off || begin+at.Size > first+m.Segs[at.In].At.Size {
		t.Errorf("the place %+v begins at %d, its segment at %d", at, begin, first)
	}
}

func TestP15_1Ordinary(t *testing.T) {
	each(t, func(t *testing.T, f api.Form) {
		check(t, ordinary(f), ordinaryPlan(f))
	})
}

// TestP15_1Named holds each number of the ordinary plan by itself.
func TestP15_1Named(t *testing.T) {
	each(t, func(t *testing.T, f api.Form) {
		p, err := plan.Of(ordinary(f))
		want := ordinaryPlan(f)
		if err != nil || p.Phoff != want.Phoff || p.Shoff != want.Shoff || p.Size != want.Size {
			t.Error(p, err)
		}
		if !slices.Equal(p.Segs, want.Segs) || !slices.Equal(p.Secs, want.Secs) {
			t.Error(p)
		}
	})
}

// TestP15_1Order holds that the order of a file's bytes has no say.
func TestP15_1Order(t *testing.T) {
	for _, wide := range []bool{false, true} {
		a, err := plan.Of(ordinary(api.Form{Wide: wide}))
		b, wrong := plan.Of(ordinary(api.Form{Wide: wide, Big: true}))
		if err != nil || wrong != nil || !samePlan(a, b) {
			t.Error(a, err, b, wrong)
		}
	}
}

func TestP15_1Example(t *testing.T) {
	check(t, api.Model{}, plan.Plan{Size: 52})
}

func TestP15_1NoSegsNoSecs(t *testing.T) {
	each(t, func(t *testing.T, f api.Form) {
		header, _, _ := sizes(f)
		m := of(f)
		check(t, m, plan.Plan{Size: uint64(header)})
		m.Segs, m.Secs = []api.Seg{}, []api.Sec{}
		check(t, m, plan.Plan{Size: uint64(header)})
		m.Entry = top(f)
		check(t, m, plan.Plan{Size: uint64(header)})
	})
}

func TestP15_1SegsAlone(t *testing.T) {
	each(t, func(t *testing.T, f api.Form) {
		for _, l := range [][]api.Sec{nil, {}} {
			m := with(of(f, load(0, 0, 5), other(own(3))), l...)
			want := plan.Plan{Phoff: 52, Size: 131, Segs: []uint64{116, 128}}
			if f.Wide {
				want = plan.Plan{Phoff: 64, Size: 187, Segs: []uint64{176, 184}}
			}
			check(t, m, want)
		}
	})
}

func TestP15_1SecsAlone(t *testing.T) {
	each(t, func(t *testing.T, f api.Form) {
		for _, l := range [][]api.Seg{nil, {}} {
			m := with(of(f, l...), sec(own(5)), sec(own(1)))
			want := plan.Plan{Shoff: 72, Size: 192, Secs: []uint64{56, 64}}
			if f.Wide {
				want = plan.Plan{Shoff: 80, Size: 272, Secs: []uint64{64, 72}}
			}
			check(t, m, want)
		}
	})
}

// TestP15_1OneOfNoBytes holds that headers are laid for what has no bytes, too.
func TestP15_1OneOfNoBytes(t *testing.T) {
	each(t, func(t *testing.T, f api.Form) {
		seg, last := plan.Plan{Phoff: 52, Size: 84, Segs: []uint64{84}}, plan.Plan{Shoff: 56, Size: 136, Secs: []uint64{56}}
		both := plan.Plan{Phoff: 52, Shoff: 88, Size: 168, Segs: []uint64{84}, Secs: []uint64{88}}
		if f.Wide {
			seg, last = plan.Plan{Phoff: 64, Size: 120, Segs: []uint64{120}}, plan.Plan{Shoff: 64, Size: 192, Secs: []uint64{64}}
			both = plan.Plan{Phoff: 64, Shoff: 120, Size: 248, Segs: []uint64{120}, Secs: []uint64{120}}
		}
		check(t, of(f, load(0, 0, 0)), seg)
		check(t, with(of(f), sec(own(0))), last)
		check(t, with(of(f, load(0, 0, 0)), sec(own(0))), both)
	})
}

// TestP15_1HowMany holds how much room the headers have, with any number of segments and of sections.
func TestP15_1HowMany(t *testing.T) {
	each(t, func(t *testing.T, f api.Form) {
		_, _, sect := sizes(f)
		for segs := range 19 {
			for _, secs := range []int{0, 1, 2, 3, 31, 63, 64, 65, 66} {
				m := many(f, segs, secs)
				if segs > 16 || secs > 64 {
					refused(t, m, api.ErrLarge)
					continue
				}
				size := front(f, segs) + segs
				if secs > 0 {
					size = up(size) + 8*secs + sect*(secs+1)
				}
				sizeIs(t, m, size)
			}
		}
	})
}

// many tells a model of so many segments and sections of one byte each.
func many(f api.Form, segs, secs int) api.Model {
	m := of(f)
	for i := range segs {
		m.Segs = append(m.Segs, load(uint64(i), 1, 1))
	}
	for range secs {
		m.Secs = append(m.Secs, sec(own(1)))
	}
	return m
}

// TestP15_1AllThereMayBe holds each place of as many things as there may be.
func TestP15_1AllThereMayBe(t *testing.T) {
	each(t, func(t *testing.T, f api.Form) {
		p, err := plan.Of(many(f, 16, 64))
		at := uint64(564)
		if f.Wide {
			at = 960
		}
		if err != nil || len(p.Segs) != 16 || len(p.Secs) != 64 {
			t.Fatal(p, err)
		}
		for i, v := range p.Segs {
			if v != at+uint64(i) {
				t.Error("segment", i, v)
			}
		}
		at += 16
		for i, v := range p.Secs {
			if v != (at+7)/8*8+8*uint64(i) {
				t.Error("section", i, v)
			}
		}
	})
}

// TestP15_1WhatHasNoSay holds that all else of a model may be any.
func TestP15_1WhatHasNoSay(t *testing.T) {
	each(t, func(t *testing.T, f api.Form) {
		m := ordinary(f)
		m.Ident.OSABI, m.Ident.ABI, m.Type, m.Machine, m.Flags, m.Entry = 255, 254, 65535, 65534, math.MaxUint32, top(f)
		for i := range m.Segs {
			s := &m.Segs[i]
			s.Flags, s.Paddr = math.MaxUint32, top(f)-uint64(i)
			if s.Type != api.Load {
				s.Type, s.Vaddr, s.Memsz, s.Align = math.MaxUint32-uint32(i), top(f)-5, top(f), 1<<(bitsOf(f)-1)
			}
		}
		m.Segs[1].Memsz, m.Segs[4].Memsz = 0xff0, 1<<20
		for i := range m.Secs {
			s := &m.Secs[i]
			s.Flags, s.Addr, s.Link, s.Info, s.Align, s.Entsize = top(f), top(f)-3, uint32(i), math.MaxUint32, top(f), 4096
		}
		m.Secs[0].Name, m.Secs[1].Name, m.Secs[4].Name, m.Secs[4].Type = 11, 3, 2, math.MaxUint32
		check(t, m, ordinaryPlan(f))
		for i := range m.Secs {
			m.Secs[i].Name = 0
		}
		m.Str, m.Secs[1].Type = 0, api.SymTabNdx
		check(t, m, ordinaryPlan(f))
	})
}

// TestP15_1EachType holds that segments of Type Load alone are laid by Vaddr, and sections by no Type.
func TestP15_1EachType(t *testing.T) {
	each(t, func(t *testing.T, f api.Form) {
		types := []uint32{0, 1, 2, 3, 4, 5, 6, 7, 8, 9, 18, 255, 256, 257, 1 << 16, 1<<16 + 1, 1<<24 + 1, 0x6474e551, math.MaxUint32}
		at := front(f, 1)
		for _, kind := range types {
			s := load(4096+uint64(at)+3, 4096, 2)
			s.Type = kind
			if kind == 1 {
				sizeIs(t, of(f, s), at+3+2)
			} else {
				sizeIs(t, of(f, s), up(at)+2)
			}
		}
		_, _, sect := sizes(f)
		at = up(front(f, 0))
		for _, kind := range types {
			x := api.Sec{Type: kind, Size: 9, Addr: 4099, Align: 4096, At: own(9)}
			size := at + 16 + 2*sect
			if kind == api.Null || kind == api.NoBits {
				x.At, size = own(0), at+2*sect
			}
			sizeIs(t, with(of(f), x), size)
		}
	})
}

// TestP15_1SectionsWithoutBytes holds that how many bytes a section of Null or NoBits has in memory has no say.
func TestP15_1SectionsWithoutBytes(t *testing.T) {
	each(t, func(t *testing.T, f api.Form) {
		for _, size := range []uint64{0, 1, 8, 65536, 1 << 31, top(f) - 7, top(f)} {
			for _, kind := range []uint32{api.Null, api.NoBits} {
				none := api.Sec{Type: kind, Size: size, At: own(0)}
				want := plan.Plan{Shoff: 72, Size: 312, Secs: []uint64{56, 56, 64, 64, 72}}
				if f.Wide {
					want = plan.Plan{Shoff: 80, Size: 464, Secs: []uint64{64, 64, 72, 72, 80}}
				}
				check(t, with(of(f), none, sec(own(3)), none, sec(own(8)), none), want)
			}
		}
	})
}

// TestP15_1MultiplesOf8 holds where a thing begins behind one of any number of bytes.
func TestP15_1MultiplesOf8(t *testing.T) {
	each(t, func(t *testing.T, f api.Form) {
		_, _, sect := sizes(f)
		for n := range 50 {
			for k := range 50 {
				at := front(f, 3)
				second := up(up(at)+n) + k
				sizeIs(t, of(f, other(own(n)), other(own(k)), other(own(0))), up(second))
				sizeIs(t, of(f, other(own(n)), other(own(k)), other(own(1))), up(second)+1)
				at = front(f, 1) + n
				sizeIs(t, with(of(f, load(0, 0, n)), sec(own(k))), up(up(at)+k)+2*sect)
				sizeIs(t, with(of(f, load(0, 0, n)), sec(own(0)), sec(own(k)), sec(own(1))), up(up(at)+k)+8+4*sect)
			}
		}
	})
}

// TestP15_1EachFromTheOneAhead holds where kinds of things meet: a segment's end is a section's beginning, if it is a multiple of 8.
func TestP15_1EachFromTheOneAhead(t *testing.T) {
	each(t, func(t *testing.T, f api.Form) {
		for n := range 20 {
			for k := range 20 {
				m := with(of(f, load(0, 0, n), other(own(k))), sec(own(n)), sec(own(k)))
				first := uint64(front(f, 2))
				second := uint64(up(int(first) + n))
				third := uint64(up(int(second) + k))
				fourth := uint64(up(int(third) + n))
				p, err := plan.Of(m)
				if err != nil || !slices.Equal(p.Segs, []uint64{first, second}) || !slices.Equal(p.Secs, []uint64{third, fourth}) {
					t.Error(n, k, p, err)
				}
				if p.Shoff != uint64(up(int(fourth)+k)) {
					t.Error(n, k, p)
				}
				agree(t, m)
			}
		}
	})
}
