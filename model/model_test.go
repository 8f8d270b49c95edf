package model_test

import (
	"bytes"
	"fmt"
	"math"
	"math/big"
	"slices"
	"strings"
	"testing"

	"bezant/api"
	"bezant/model"
)

// hold is what spoils memory, and what lies around bytes.
const hold = 0xee

// Types that mean nothing to this layer.
const (
	otherSeg = 4
	otherSec = 1
)

// forms tells both classes in both orders.
func forms() []api.Form {
	return []api.Form{{}, {Big: true}, {Wide: true}, {Wide: true, Big: true}}
}

// each runs a test of both classes in both orders.
func each(t *testing.T, test func(t *testing.T, f api.Form)) {
	for _, f := range forms() {
		t.Run(fmt.Sprintf("%+v", f), func(t *testing.T) { test(t, f) })
	}
}

// top tells the greatest number of a class.
func top(f api.Form) uint64 {
	if f.Wide {
		return math.MaxUint64
	}
	return math.MaxUint32
}

// own tells a place that has these bytes as its own.
func own(b ...byte) api.Place { return api.Place{In: -1, Size: uint64(len(b)), Own: b} }

// in tells a place in a segment.
func in(i int, off, size uint64) api.Place { return api.Place{In: i, Off: off, Size: size} }

// room tells n bytes, all different for some while.
func room(n int) []byte {
	b := make([]byte, n)
	for i := range b {
		b[i] = byte(7 * i)
	}
	return b
}

// of tells a model of a form that has these segments, and no sections.
func of(f api.Form, l ...api.Seg) api.Model { return api.Model{Ident: api.Ident{Form: f}, Segs: l} }

// Where in the ordinary model things are.
const (
	note    = 0 // a segment in the first one of Type Load
	first   = 1
	dynamic = 2 // a segment in the second one of Type Load
	second  = 3
	stack   = 4 // a segment without bytes

	text    = 0 // a section in the first segment of Type Load
	names   = 1
	zeros   = 2 // a section of NoBits
	unused  = 3 // a section of Null
	symbols = 4 // a section with bytes of its own
)

// ordinary tells a model that may be, with all kinds of segments and of sections, new each time.
func ordinary(f api.Form) api.Model {
	base := uint64(0x1000)
	if f.Wide {
		base = 1 << 40
	}
	table := []byte("\x00.text\x00.shstrtab\x00.bss\x00.symtab\x00")
	return api.Model{
		Ident: api.Ident{Form: f, OSABI: 3, ABI: 1}, Type: 3, Machine: 62, Flags: 5, Entry: base + 4,
		Segs: []api.Seg{
			{Type: otherSeg, Flags: 4, Vaddr: base + 2, Paddr: base + 2, Memsz: 3, Align: 1, At: in(first, 2, 3)},
			{Type: api.Load, Flags: 5, Vaddr: base, Paddr: base, Memsz: 16, Align: 0x1000, At: own(room(16)...)},
			{Type: api.Dynamic, Flags: 6, Vaddr: base + 0x1000, Paddr: base + 0x1000, Memsz: 4, Align: 8, At: in(second, 0, 4)},
			{Type: api.Load, Flags: 6, Vaddr: base + 0x1000, Paddr: base + 0x1000, Memsz: 0x100, Align: 0x1000, At: own(room(8)...)},
			{Type: 0x6474e551, Flags: 6, Align: 16, At: own()},
		},
		Secs: []api.Sec{
			{Name: 1, Type: otherSec, Flags: 6, Addr: base, Size: 16, Align: 16, At: in(first, 0, 16)},
			{Name: 7, Type: api.StrTab, Size: uint64(len(table)), Align: 1, At: own(table...)},
			{Name: 17, Type: api.NoBits, Flags: 3, Addr: base + 0x1008, Size: 0xf8, Align: 8, At: own()},
			{At: own()},
			{Name: 22, Type: api.SymTab, Size: 24, Link: names + 1, Info: 1, Align: 8, Entsize: 24, At: own(room(24)...)},
		},
		Str: names + 1,
	}
}

// clonePlace tells a place that shares no memory.
func clonePlace(p api.Place) api.Place {
	p.Own = bytes.Clone(p.Own)
	return p
}

// clone tells a model that shares no memory.
func clone(m api.Model) api.Model {
	m.Segs, m.Secs = slices.Clone(m.Segs), slices.Clone(m.Secs)
	for i := range m.Segs {
		m.Segs[i].At = clonePlace(m.Segs[i].At)
	}
	for i := range m.Secs {
		m.Secs[i].At = clonePlace(m.Secs[i].At)
	}
	return m
}

// check holds what Check answers against what is told here, and against the reference.
func check(t *testing.T, m api.Model, want error) {
	t.Helper()
	if x := reference(m); x != want {
		t.Errorf("the reference tells %v, not %v, of %+v", x, want, m)
	}
	if err := model.Check(m); err != want {
		t.Errorf("Check tells %v, not %v, of %+v", err, want, m)
	}
}

// agree holds what Check answers against the reference alone.
func agree(t *testing.T, m api.Model) {
	t.Helper()
	if err, want := model.Check(m), reference(m); err != want {
		t.Errorf("Check tells %v, not %v, of %+v", err, want, m)
	}
}

// may holds that a model may be, if ok, and else that it is told to be wrong like that.
func may(t *testing.T, m api.Model, ok bool, code api.Code) {
	t.Helper()
	if ok {
		check(t, m, nil)
	} else {
		check(t, m, code)
	}
}

// The reference counts without bounds, and looks at each thing that the chapter names by itself.

// number tells a number that doesn't wrap round.
func number(v uint64) *big.Int { return new(big.Int).SetUint64(v) }

// sum tells what two numbers are together.
func sum(a, b uint64) *big.Int { return new(big.Int).Add(number(a), number(b)) }

// power tells a power of two.
func power(n uint) *big.Int { return new(big.Int).Lsh(big.NewInt(1), n) }

// classBits tells how many bits a class has.
func classBits(f api.Form) uint {
	if f.Wide {
		return 64
	}
	return 32
}

// placeMayBe is the chapter's second paragraph.
func placeMayBe(m api.Model, p api.Place) bool {
	if p.In == -1 {
		return p.Off == 0 && number(p.Size).Cmp(big.NewInt(int64(len(p.Own)))) == 0
	}
	for i, s := range m.Segs {
		if i == p.In {
			return s.Type == 1 && len(p.Own) == 0 && p.Size != 0 && sum(p.Off, p.Size).Cmp(big.NewInt(int64(len(s.At.Own)))) <= 0
		}
	}
	return false
}

// powerOfTwo tells whether a number is one, by a look at all of them.
func powerOfTwo(v uint64) bool {
	for n := range uint(64) {
		if number(v).Cmp(power(n)) == 0 {
			return true
		}
	}
	return false
}

// reference tells what Check should answer.
func reference(m api.Model) error {
	if len(m.Segs) > 16 || len(m.Secs) > 64 {
		return api.ErrLarge
	}
	limit := power(classBits(m.Ident.Form))
	fits := func(l ...uint64) bool {
		return !slices.ContainsFunc(l, func(v uint64) bool { return number(v).Cmp(limit) >= 0 })
	}
	ok := fits(m.Entry)
	for _, s := range m.Segs {
		ok = ok && fits(s.Vaddr, s.Paddr, s.Memsz, s.Align)
	}
	for _, s := range m.Secs {
		ok = ok && fits(s.Flags, s.Addr, s.Size, s.Align, s.Entsize)
	}
	if !ok {
		return api.ErrArg
	}
	for _, s := range m.Segs {
		if err := referenceSeg(m, s, limit); err != nil {
			return err
		}
	}
	if !referenceRises(m) {
		return api.ErrOrder
	}
	for _, s := range m.Secs {
		if err := referenceSec(m, s); err != nil {
			return err
		}
	}
	return referenceNames(m)
}

func referenceSeg(m api.Model, s api.Seg, limit *big.Int) error {
	if s.Align != 0 && !powerOfTwo(s.Align) {
		return api.ErrAlign
	}
	if !placeMayBe(m, s.At) || s.Type == 1 && s.At.In != -1 {
		return api.ErrArg
	}
	if s.Type == 1 && uint64(len(s.At.Own)) > s.Memsz {
		return api.ErrRange
	}
	if s.Type == 1 && sum(s.Vaddr, s.Memsz).Cmp(limit) > 0 {
		return api.ErrWrap
	}
	return nil
}

// referenceRises holds each segment of Type Load against each one behind it.
func referenceRises(m api.Model) bool {
	for i, s := range m.Segs {
		for _, x := range m.Segs[i+1:] {
			if s.Type != 1 || x.Type != 1 {
				continue
			}
			if sum(s.Vaddr, s.Memsz).Cmp(number(x.Vaddr)) > 0 {
				return false
			}
		}
	}
	return true
}

func referenceSec(m api.Model, s api.Sec) error {
	has := s.At.Size
	if s.At.In == -1 {
		has = uint64(len(s.At.Own))
	}
	want := s.Size
	switch s.Type {
	case 0, 8:
		want = 0
	}
	if !placeMayBe(m, s.At) || has != want {
		return api.ErrArg
	}
	if int64(s.Link) > int64(len(m.Secs)) {
		return api.ErrLink
	}
	return nil
}

func referenceNames(m api.Model) error {
	if m.Str < 0 || m.Str > len(m.Secs) {
		return api.ErrLink
	}
	for _, s := range m.Secs {
		if m.Str == 0 && s.Name == 0 {
			continue
		}
		if m.Str == 0 || m.Secs[m.Str-1].Type != 3 || m.Secs[m.Str-1].At.In != -1 {
			return api.ErrName
		}
		// A name stands wherever a 0 is behind.
		behind := bytes.LastIndexByte(m.Secs[m.Str-1].At.Own, 0)
		if int64(s.Name) > int64(behind) {
			return api.ErrName
		}
	}
	return nil
}

func TestP14_1Ordinary(t *testing.T) {
	each(t, func(t *testing.T, f api.Form) {
		check(t, ordinary(f), nil)
		m := ordinary(f)
		m.Secs, m.Str = nil, 0
		check(t, m, nil)
		m = ordinary(f)
		m.Segs = nil
		m.Secs[text].At = own(room(16)...)
		check(t, m, nil)
	})
}

func TestP14_1Example(t *testing.T) {
	each(t, func(t *testing.T, f api.Form) {
		check(t, api.Model{Ident: api.Ident{Form: f}, Str: 1}, api.ErrLink)
	})
}

// TestP14_1WhatIsNotLookedAt holds that the other fields may be any.
func TestP14_1WhatIsNotLookedAt(t *testing.T) {
	each(t, func(t *testing.T, f api.Form) {
		m := ordinary(f)
		m.Ident.OSABI, m.Ident.ABI, m.Type, m.Machine, m.Flags = 255, 255, 65535, 65535, math.MaxUint32
		for i := range m.Segs {
			m.Segs[i].Flags, m.Segs[i].Paddr = math.MaxUint32, top(f)
		}
		m.Segs[stack].Type, m.Segs[stack].Vaddr, m.Segs[stack].Memsz = math.MaxUint32, top(f), top(f)
		m.Segs[dynamic].Vaddr, m.Segs[dynamic].Memsz = 0, 0
		for i := range m.Secs {
			m.Secs[i].Flags, m.Secs[i].Addr, m.Secs[i].Info = top(f), top(f), math.MaxUint32
			m.Secs[i].Align, m.Secs[i].Entsize = top(f), top(f)
		}
		m.Secs[text].Type = math.MaxUint32
		check(t, m, nil)
		m.Entry = top(f)
		check(t, m, nil)
	})
}

func TestP14_3NoSegsNoSecs(t *testing.T) {
	each(t, func(t *testing.T, f api.Form) {
		for _, entry := range []uint64{0, 1, math.MaxUint32, math.MaxUint32 + 1, 1 << 63, math.MaxUint64} {
			m := api.Model{Ident: api.Ident{Form: f}, Entry: entry}
			may(t, m, entry <= top(f), api.ErrArg)
			m.Ident.OSABI, m.Ident.ABI, m.Type, m.Machine, m.Flags = 255, 254, 65535, 65534, math.MaxUint32
			may(t, m, entry <= top(f), api.ErrArg)
			m.Segs, m.Secs = []api.Seg{}, []api.Sec{}
			may(t, m, entry <= top(f), api.ErrArg)
		}
	})
}

func TestP14_3EachBitOfEntry(t *testing.T) {
	each(t, func(t *testing.T, f api.Form) {
		for n := range 64 {
			may(t, api.Model{Ident: api.Ident{Form: f}, Entry: 1 << n}, f.Wide || n < 32, api.ErrArg)
		}
	})
}

// manySegs tells n segments of Type Load, each with bytes of its own, that touch.
func manySegs(n int) []api.Seg {
	l := make([]api.Seg, n)
	for i := range l {
		l[i] = api.Seg{Type: api.Load, Vaddr: uint64(8 * i), Memsz: 8, At: own(byte(i))}
	}
	return l
}

// manySecs tells n sections, each with bytes of its own, and names in the last one.
func manySecs(n int) []api.Sec {
	l := make([]api.Sec, n)
	for i := range l {
		l[i] = api.Sec{Name: uint32(i % 3), Type: api.StrTab, Size: 3, Link: uint32(n), At: own('a', 'b', 0)}
	}
	return l
}

func TestP14_1HowMany(t *testing.T) {
	each(t, func(t *testing.T, f api.Form) {
		for _, n := range []int{0, 1, 2, 15, 16, 17, 18, 63, 64, 65, 255, 256, 65536, 100000} {
			m := of(f, manySegs(n)...)
			may(t, m, n <= 16, api.ErrLarge)
			m = of(f)
			m.Secs, m.Str = manySecs(n), n
			may(t, m, n <= 64, api.ErrLarge)
		}
	})
}

func TestP14_1BothAtTheirLimits(t *testing.T) {
	each(t, func(t *testing.T, f api.Form) {
		for _, segs := range []int{16, 17} {
			for _, secs := range []int{64, 65} {
				m := of(f, manySegs(segs)...)
				m.Secs, m.Str = manySecs(secs), secs
				may(t, m, segs == 16 && secs == 64, api.ErrLarge)
			}
		}
	})
}

// TestP14_1LengthNotCapacity holds that room behind the lists, and behind bytes, isn't counted.
func TestP14_1LengthNotCapacity(t *testing.T) {
	each(t, func(t *testing.T, f api.Form) {
		m := of(f, manySegs(40)[:16]...)
		m.Secs, m.Str = manySecs(100)[:64], 64
		for i := range m.Secs {
			m.Secs[i].Link = 64
			m.Secs[i].At = own([]byte{'a', 'b', 0, 0, 0}[:3]...)
		}
		check(t, m, nil)
		m.Str = 65
		check(t, m, api.ErrLink)
		m.Str = 64
		m.Secs[0].Name = 3
		check(t, m, api.ErrName)
		m.Secs[0].Name = 0
		m.Secs[0].At.In = 16
		check(t, m, api.ErrArg)
	})
}

// classNumbers tells a model's numbers that must fit the class, by their names.
func classNumbers(m *api.Model) (map[string]*uint64, []string) {
	l := map[string]*uint64{"Entry": &m.Entry}
	for i := range m.Segs {
		s := &m.Segs[i]
		for name, at := range map[string]*uint64{"Vaddr": &s.Vaddr, "Paddr": &s.Paddr, "Memsz": &s.Memsz, "Align": &s.Align} {
			l[fmt.Sprint("segment ", i, " ", name)] = at
		}
	}
	for i := range m.Secs {
		s := &m.Secs[i]
		for name, at := range map[string]*uint64{"Flags": &s.Flags, "Addr": &s.Addr, "Size": &s.Size, "Align": &s.Align, "Entsize": &s.Entsize} {
			l[fmt.Sprint("section ", i, " ", name)] = at
		}
	}
	var all []string
	for name := range l {
		all = append(all, name)
	}
	slices.Sort(all)
	return l, all
}

// loose tells a model whose numbers may be any, but for segments' Align: of segments that aren't loaded, and of sections without bytes.
func loose(f api.Form) api.Model {
	m := of(f, api.Seg{Type: otherSeg, At: own()}, api.Seg{Type: 0, At: own()}, api.Seg{Type: api.Dynamic, At: own(1)})
	m.Secs = []api.Sec{{Type: api.NoBits, At: own()}, {Type: api.Null, At: own()}}
	return m
}

func TestP14_1EachNumberAtTheClassesEnd(t *testing.T) {
	each(t, func(t *testing.T, f api.Form) {
		m := loose(f)
		check(t, m, nil)
		l, all := classNumbers(&m)
		if len(all) != 1+3*4+2*5 {
			t.Fatal(len(all))
		}
		for _, name := range all {
			for _, v := range []uint64{0, 1, math.MaxUint32 - 1, math.MaxUint32, math.MaxUint32 + 1, math.MaxUint32 + 2, 1 << 33, 1 << 63, math.MaxUint64 - 1, math.MaxUint64} {
				*l[name] = v
				switch {
				case v > top(f):
					check(t, m, api.ErrArg)
				case strings.HasPrefix(name, "segment") && strings.HasSuffix(name, "Align"):
					may(t, m, v < 2 || v == math.MaxUint32+1 || v == 1<<33 || v == 1<<63, api.ErrAlign)
				default:
					check(t, m, nil)
				}
			}
			*l[name] = 0
		}
		check(t, m, nil)
	})
}

// TestP14_1EachNumberOfTheOrdinary holds that none but those that must fit is told with 32 bits, whatever the section or segment.
func TestP14_1EachNumberOfTheOrdinary(t *testing.T) {
	m := ordinary(api.Form{})
	l, all := classNumbers(&m)
	for _, name := range all {
		for n := 32; n < 64; n++ {
			was := *l[name]
			*l[name] |= 1 << n
			check(t, m, api.ErrArg)
			*l[name] = was
		}
	}
	check(t, m, nil)
}

func TestP14_1AllAtTheGreatest(t *testing.T) {
	each(t, func(t *testing.T, f api.Form) {
		m := loose(f)
		l, all := classNumbers(&m)
		for _, name := range all {
			*l[name] = top(f)
		}
		for i := range m.Segs {
			m.Segs[i].Align = top(f)/2 + 1
		}
		check(t, m, nil)
	})
}

func TestP14_1Align(t *testing.T) {
	each(t, func(t *testing.T, f api.Form) {
		for i := range ordinary(f).Segs {
			m := ordinary(f)
			set := func(v uint64, ok bool) {
				m.Segs[i].Align = v
				if v > top(f) {
					check(t, m, api.ErrArg)
				} else {
					may(t, m, ok, api.ErrAlign)
				}
			}
			set(0, true)
			for n := range 64 {
				v := uint64(1) << n
				set(v, true)
				// 1 less is 0, 2 less is 1, and 1 more is 2.
				set(v-1, n <= 1)
				set(v+1, n == 0)
				for k := range n {
					set(v|1<<k, false)
				}
			}
			set(math.MaxUint32, false)
			set(math.MaxUint64, false)
		}
	})
}

// TestP14_1AlignOfSections holds that of sections no Align is looked at.
func TestP14_1AlignOfSections(t *testing.T) {
	each(t, func(t *testing.T, f api.Form) {
		m := ordinary(f)
		for i := range m.Secs {
			for _, v := range []uint64{0, 1, 2, 3, 6, 12, 255, top(f)} {
				m.Secs[i].Align = v
				check(t, m, nil)
			}
		}
	})
}

// greats tells numbers at the ends of what there are, and around n.
func greats(n int) []uint64 {
	v := uint64(n)
	return []uint64{0, 1, v - 1, v, v + 1, 2 * v, 255, 256, 65535, 65536, 1 << 31, math.MaxUint32, math.MaxUint32 + 1, 1<<32 + v,
		1 << 63, 1<<63 + v, math.MaxUint64 - v, math.MaxUint64 - v + 1, math.MaxUint64 - 1, math.MaxUint64}
}

// ints tells numbers of segments that there aren't.
func ints(n int) []int {
	return []int{-2, -3, -256, n, n + 1, n + 255, 255, 256, 65535, 65536, math.MaxInt32, math.MinInt32, math.MaxInt32 + 1,
		math.MaxUint32, math.MaxUint32 + 1, math.MinInt32 - 1, -1 << 32, -1<<32 - 1, math.MaxInt - 1, math.MaxInt, math.MinInt + 1, math.MinInt}
}

// someone tells models, and of each a place of a segment or a section that has n bytes, at which places are tried.
func someone(f api.Form, n int) map[string]func() (*api.Model, *api.Place) {
	seg := func(kind uint32) func() (*api.Model, *api.Place) {
		return func() (*api.Model, *api.Place) {
			m := ordinary(f)
			m.Segs = append(m.Segs, api.Seg{Type: kind, Vaddr: 1 << 30, Memsz: 100, At: own(room(n)...)})
			if f.Wide {
				m.Segs[len(m.Segs)-1].Vaddr = 1 << 50
			}
			return &m, &m.Segs[len(m.Segs)-1].At
		}
	}
	return map[string]func() (*api.Model, *api.Place){
		"a segment of Type Load": seg(api.Load), "a segment of another Type": seg(otherSeg), "a segment of Type Null": seg(0),
		"a section": func() (*api.Model, *api.Place) {
			m := ordinary(f)
			m.Secs = append(m.Secs, api.Sec{Type: otherSec, Size: uint64(n), At: own(room(n)...)})
			return &m, &m.Secs[len(m.Secs)-1].At
		},
	}
}

func TestP14_1OwnPlace(t *testing.T) {
	each(t, func(t *testing.T, f api.Form) {
		for _, n := range []int{0, 1, 2, 16, 100} {
			for name, tell := range someone(f, n) {
				t.Run(fmt.Sprint(name, " ", n), func(t *testing.T) {
					m, p := tell()
					check(t, *m, nil)
					for _, v := range greats(n) {
						p.Off = v
						may(t, *m, v == 0, api.ErrArg)
						p.Off = 0
						p.Size = v
						may(t, *m, v == uint64(n), api.ErrArg)
						p.Size = uint64(n)
					}
					// Off and Size that together are how many there are.
					for off := range n + 1 {
						p.Off, p.Size = uint64(off), uint64(n-off)
						may(t, *m, off == 0, api.ErrArg)
					}
				})
			}
		}
	})
}

// TestP14_1OwnPlaceSizeOfSection holds that Size of a section isn't taken for Size of its place.
func TestP14_1OwnPlaceSizeOfSection(t *testing.T) {
	each(t, func(t *testing.T, f api.Form) {
		m := of(f)
		for held := range 4 {
			for place := range 4 {
				for size := range 4 {
					p := own(room(held)...)
					p.Size = uint64(place)
					m.Secs = []api.Sec{{Type: otherSec, Size: uint64(size), At: p}}
					may(t, m, held == place && place == size, api.ErrArg)
				}
			}
		}
	})
}

func TestP14_1NoSuchSegment(t *testing.T) {
	each(t, func(t *testing.T, f api.Form) {
		for name, tell := range someone(f, 3) {
			t.Run(name, func(t *testing.T) {
				m, p := tell()
				was := *p
				for _, i := range ints(len(m.Segs)) {
					p.In = i
					check(t, *m, api.ErrArg)
					*p = in(i, 0, 3)
					check(t, *m, api.ErrArg)
					*p = in(i, 0, 0)
					check(t, *m, api.ErrArg)
					*p = was
				}
				check(t, *m, nil)
			})
		}
		m := of(f)
		m.Secs = []api.Sec{{Type: otherSec, Size: 1, At: in(0, 0, 1)}}
		check(t, m, api.ErrArg)
	})
}

func TestP14_1PlaceInASegment(t *testing.T) {
	each(t, func(t *testing.T, f api.Form) {
		for off := range uint64(19) {
			for size := range uint64(19) {
				ok := size > 0 && off+size <= 16
				m := ordinary(f)
				m.Segs[note].At = in(first, off, size)
				may(t, m, ok, api.ErrArg)
				m = ordinary(f)
				m.Secs[text].Size, m.Secs[text].At = size, in(first, off, size)
				may(t, m, ok, api.ErrArg)
				m.Secs[text].At = in(second, off, size)
				may(t, m, size > 0 && off+size <= 8, api.ErrArg)
			}
		}
	})
}

// TestP14_1PlaceInASegmentBeyondAllNumbers holds that Off and Size don't wrap round.
func TestP14_1PlaceInASegmentBeyondAllNumbers(t *testing.T) {
	each(t, func(t *testing.T, f api.Form) {
		for _, off := range greats(16) {
			for _, size := range greats(16) {
				ok := size > 0 && size <= 16 && off <= 16-size
				m := ordinary(f)
				m.Segs[note].At = in(first, off, size)
				may(t, m, ok, api.ErrArg)
				m = ordinary(f)
				m.Secs[text].Size, m.Secs[text].At = size&top(f), in(first, off, size)
				may(t, m, ok, api.ErrArg)
			}
		}
	})
}

// TestP14_1PlaceInASegmentNotItsMemory holds that a segment's Memsz, and its place's Size, tell nothing of its bytes.
func TestP14_1PlaceInASegmentNotItsMemory(t *testing.T) {
	each(t, func(t *testing.T, f api.Form) {
		m := of(f, api.Seg{Type: api.Load, Memsz: 100, At: own(room(10)...)}, api.Seg{Type: otherSeg, At: in(0, 5, 5)})
		check(t, m, nil)
		m.Segs[1].At.Size = 6
		check(t, m, api.ErrArg)
		m.Segs[1].At = in(0, 10, 1)
		check(t, m, api.ErrArg)
		m.Segs[0].At.Own = nil
		m.Segs[0].At.Size = 0
		m.Segs[1].At = in(0, 0, 1)
		check(t, m, api.ErrArg)
	})
}

func TestP14_1OwnInASegment(t *testing.T) {
	each(t, func(t *testing.T, f api.Form) {
		for n := range 5 {
			m := ordinary(f)
			m.Segs[note].At.Own = room(n)
			may(t, m, n == 0, api.ErrArg)
			m = ordinary(f)
			m.Secs[text].At.Own = room(n)
			may(t, m, n == 0, api.ErrArg)
			m = ordinary(f)
			m.Secs[text].At.Own = room(16)[:n]
			may(t, m, n == 0, api.ErrArg)
		}
		// As many bytes as the place in the segment has.
		m := ordinary(f)
		m.Secs[text].At.Own = room(16)
		check(t, m, api.ErrArg)
	})
}

func TestP14_1PlaceInOneThatIsNotLoaded(t *testing.T) {
	each(t, func(t *testing.T, f api.Form) {
		for _, kind := range []uint32{0, 2, 3, 4, 5, 6, 7, 255, 256, 257, 65537, 1 << 31, math.MaxUint32} {
			m := of(f, api.Seg{Type: kind, At: own(room(8)...)}, api.Seg{Type: otherSeg, At: own()})
			check(t, m, nil)
			m.Segs[1].At = in(0, 0, 1)
			check(t, m, api.ErrArg)
			m.Segs[1].At = own()
			m.Secs = []api.Sec{{Type: otherSec, Size: 1, At: in(0, 0, 1)}}
			check(t, m, api.ErrArg)
			m.Segs[0].Type, m.Segs[0].Memsz = api.Load, 8
			check(t, m, nil)
		}
	})
}

// TestP14_1PlaceInOneInAnother holds that a place in a segment whose own place is in another one may not be: that one isn't loaded, or may not be itself.
func TestP14_1PlaceInOneInAnother(t *testing.T) {
	each(t, func(t *testing.T, f api.Form) {
		m := ordinary(f)
		m.Segs[stack].At = in(note, 0, 1)
		check(t, m, api.ErrArg)
		m = ordinary(f)
		m.Secs[text].Size, m.Secs[text].At = 1, in(note, 0, 1)
		check(t, m, api.ErrArg)
		for i := range m.Segs {
			m = ordinary(f)
			m.Segs[i].At = in(i, 0, 1)
			check(t, m, api.ErrArg)
			m.Segs[i].At.Own = room(1)
			check(t, m, api.ErrArg)
		}
		m = ordinary(f)
		m.Segs[note].At, m.Segs[dynamic].At = in(dynamic, 0, 1), in(note, 0, 1)
		check(t, m, api.ErrArg)
	})
}

func TestP14_1LoadedInAnother(t *testing.T) {
	each(t, func(t *testing.T, f api.Form) {
		load := func(at uint64, p api.Place) api.Seg {
			return api.Seg{Type: api.Load, Vaddr: at, Memsz: 8, At: p}
		}
		m := of(f, load(0, own(room(8)...)), load(8, own(room(8)...)))
		check(t, m, nil)
		for _, p := range []api.Place{in(0, 0, 1), in(0, 0, 8), in(0, 7, 1)} {
			m.Segs[1].At = p
			check(t, m, api.ErrArg)
		}
		m = of(f, load(0, in(1, 0, 4)), load(8, own(room(8)...)))
		check(t, m, api.ErrArg)
		m.Segs[0].Type = otherSeg
		check(t, m, nil)
	})
}

// TestP14_1OwnBytesOfOneElsewhere holds that how many bytes a segment has as its own is told by its Own, whatever its In is.
func TestP14_1OwnBytesOfOneElsewhere(t *testing.T) {
	each(t, func(t *testing.T, f api.Form) {
		wrong := api.Place{In: 0, Size: 1, Own: room(8)}
		m := of(f, api.Seg{Type: otherSeg, At: in(2, 0, 8)}, api.Seg{Type: otherSeg, Align: 3, At: own()}, api.Seg{Type: api.Load, Memsz: 8, At: wrong})
		check(t, m, api.ErrAlign)
		m.Segs[0].At.Size = 9
		check(t, m, api.ErrArg)
		m.Segs[0].At.Size = 8
		m.Segs[1].Align = 0
		check(t, m, api.ErrArg)
	})
}

func TestP14_1Range(t *testing.T) {
	each(t, func(t *testing.T, f api.Form) {
		for n := range 6 {
			for size := range uint64(8) {
				m := of(f, api.Seg{Type: api.Load, Memsz: size, At: own(room(n)...)})
				may(t, m, uint64(n) <= size, api.ErrRange)
				// Of another Type Memsz may be any.
				m.Segs[0].Type = otherSeg
				check(t, m, nil)
			}
		}
		m := ordinary(f)
		m.Segs[first].Memsz = 15
		check(t, m, api.ErrRange)
		m = ordinary(f)
		m.Segs[second].Memsz = 8
		check(t, m, nil)
		m.Segs[second].Memsz = 7
		check(t, m, api.ErrRange)
	})
}

func TestP14_1RangeOfVeryMany(t *testing.T) {
	each(t, func(t *testing.T, f api.Form) {
		for _, n := range []int{255, 256, 65535, 65536, 65537, 1 << 20} {
			for _, size := range []uint64{255, 256, 65535, 65536, 65537, 1 << 20, math.MaxUint32} {
				m := of(f, api.Seg{Type: api.Load, Memsz: size, At: own(room(n)...)})
				if err := model.Check(m); (err == nil) != (uint64(n) <= size) {
					t.Error(n, size, err)
				}
			}
		}
	})
}

func TestP14_1Wrap(t *testing.T) {
	each(t, func(t *testing.T, f api.Form) {
		for n := range uint64(9) {
			for size := range uint64(9) {
				// n below the end, which is 2^32 or 2^64; no address is at the end itself.
				if n == 0 {
					continue
				}
				m := of(f, api.Seg{Type: api.Load, Vaddr: top(f) - n + 1, Memsz: size, At: own()})
				may(t, m, size <= n, api.ErrWrap)
				m.Segs[0].Type = otherSeg
				check(t, m, nil)
			}
		}
		for _, c := range []struct {
			at, size uint64
			ok       bool
		}{
			{0, 0, true}, {0, top(f), true}, {1, top(f), true}, {2, top(f), false}, {2, top(f) - 1, true}, {3, top(f) - 1, false},
			{top(f), 0, true}, {top(f), 1, true}, {top(f), 2, false}, {top(f), top(f), false}, {top(f)/2 + 1, top(f)/2 + 1, true},
			{top(f)/2 + 1, top(f)/2 + 2, false}, {top(f)/2 + 2, top(f)/2 + 1, false}, {top(f) / 2, top(f)/2 + 2, true},
		} {
			may(t, of(f, api.Seg{Type: api.Load, Vaddr: c.at, Memsz: c.size, At: own()}), c.ok, api.ErrWrap)
		}
	})
}

// TestP14_1WrapOfTheOtherClass holds that of 64 bits the end isn't 2^32.
func TestP14_1WrapOfTheOtherClass(t *testing.T) {
	each(t, func(t *testing.T, f api.Form) {
		m := of(f, api.Seg{Type: api.Load, Vaddr: math.MaxUint32, Memsz: 1, At: own(1)})
		check(t, m, nil)
		m.Segs[0].Memsz = 2
		may(t, m, f.Wide, api.ErrWrap)
		m.Segs[0].Memsz = math.MaxUint32
		may(t, m, f.Wide, api.ErrWrap)
	})
}

// TestP14_1WrapOfTheLast holds that each segment is looked at, the last one too.
func TestP14_1WrapOfTheLast(t *testing.T) {
	each(t, func(t *testing.T, f api.Form) {
		m := ordinary(f)
		m.Segs[second].Memsz = top(f) - m.Segs[second].Vaddr + 1
		check(t, m, nil)
		m.Segs[second].Memsz++
		check(t, m, api.ErrWrap)
		m = ordinary(f)
		m.Segs[first].Memsz = top(f) - m.Segs[first].Vaddr + 2
		check(t, m, api.ErrWrap)
	})
}

func TestP14_1Order(t *testing.T) {
	each(t, func(t *testing.T, f api.Form) {
		base := top(f) - 1000
		load := func(at, size uint64) api.Seg {
			return api.Seg{Type: api.Load, Vaddr: base + at, Memsz: size, At: own()}
		}
		other := api.Seg{Type: otherSeg, Vaddr: base + 500, Memsz: 400, At: own()}
		for _, c := range []struct {
			a, b api.Seg
			ok   bool
		}{
			{load(0, 10), load(10, 10), true}, {load(0, 10), load(11, 10), true}, {load(0, 11), load(10, 10), false},
			{load(0, 10), load(9, 1), false}, {load(0, 10), load(0, 10), false}, {load(10, 10), load(0, 10), false},
			{load(10, 10), load(0, 5), false}, {load(0, 10), load(5, 0), false}, {load(0, 10), load(9, 0), false},
			{load(0, 10), load(10, 0), true}, {load(5, 0), load(5, 10), true}, {load(5, 0), load(4, 10), false},
			{load(5, 0), load(5, 0), true}, {load(5, 0), load(4, 0), false}, {load(4, 0), load(5, 0), true},
			{load(0, 1001), load(0, 0), false}, {load(0, 1001), load(1000, 0), false}, {load(0, 1000), load(1000, 1), true},
			{load(0, 1001), load(1000, 1), false},
		} {
			may(t, of(f, c.a, c.b), c.ok, api.ErrOrder)
			// Others between them, of any addresses, change nothing.
			may(t, of(f, other, c.a, other, other, c.b, other), c.ok, api.ErrOrder)
			c.b.Type = otherSeg
			check(t, of(f, c.a, c.b), nil)
			c.a.Type, c.b.Type = otherSeg, api.Load
			check(t, of(f, c.a, c.b), nil)
		}
	})
}

// TestP14_1OrderOfThree holds all of three small segments, loaded or not, against the reference, also at the addresses' end.
func TestP14_1OrderOfThree(t *testing.T) {
	each(t, func(t *testing.T, f api.Form) {
		for _, base := range []uint64{0, top(f) - 3} {
			for kinds := range 8 {
				for n := range 1 << 12 {
					m := of(f)
					for i := range 3 {
						at := uint64(n >> (4 * i))
						m.Segs = append(m.Segs, api.Seg{Type: uint32(kinds>>i&1) * api.Load, Vaddr: base + at&3, Memsz: at >> 2 & 3, At: own()})
					}
					agree(t, m)
				}
			}
		}
	})
}

// TestP14_1OrderAsNumbers holds that addresses are no numbers below 0.
func TestP14_1OrderAsNumbers(t *testing.T) {
	each(t, func(t *testing.T, f api.Form) {
		low := api.Seg{Type: api.Load, Vaddr: top(f) / 2, Memsz: 1, At: own()}
		high := api.Seg{Type: api.Load, Vaddr: top(f)/2 + 1, Memsz: 1, At: own()}
		check(t, of(f, low, high), nil)
		check(t, of(f, high, low), api.ErrOrder)
	})
}

func TestP14_1WithoutBytes(t *testing.T) {
	each(t, func(t *testing.T, f api.Form) {
		for _, kind := range []uint32{api.Null, api.NoBits} {
			for _, size := range []uint64{0, 1, 3, 4, 65536, 1 << 31, top(f) - 1, top(f)} {
				m := ordinary(f)
				m.Secs[unused].Type, m.Secs[unused].Size = kind, size
				check(t, m, nil)
				for n := 1; n < 5; n++ {
					m.Secs[unused].At = own(room(n)...)
					check(t, m, api.ErrArg)
					m.Secs[unused].At = in(first, 0, uint64(n))
					check(t, m, api.ErrArg)
				}
				m.Secs[unused].At = in(first, 0, 0)
				check(t, m, api.ErrArg)
				m.Secs[unused].At = api.Place{In: -1, Size: size}
				may(t, m, size == 0, api.ErrArg)
			}
		}
	})
}

func TestP14_1WithBytes(t *testing.T) {
	each(t, func(t *testing.T, f api.Form) {
		for _, kind := range []uint32{1, 2, 3, 4, 5, 6, 7, 9, 10, 11, 18, 256, 264, 65536, 65544, 1 << 31, 1<<31 + 8, math.MaxUint32} {
			for n := range 5 {
				for size := range uint64(7) {
					m := ordinary(f)
					m.Secs[unused] = api.Sec{Type: kind, Size: size, At: own(room(n)...)}
					may(t, m, size == uint64(n), api.ErrArg)
					m.Secs[unused].At = in(first, 3, uint64(n))
					may(t, m, size == uint64(n) && n > 0, api.ErrArg)
				}
				m := ordinary(f)
				m.Secs[unused] = api.Sec{Type: kind, Size: top(f), At: own(room(n)...)}
				check(t, m, api.ErrArg)
			}
		}
	})
}

func TestP14_1Link(t *testing.T) {
	each(t, func(t *testing.T, f api.Form) {
		for i := range ordinary(f).Secs {
			m := ordinary(f)
			for _, c := range []uint32{0, 1, 2, 4, 5, 6, 7, 64, 65, 255, 256, 65535, 65536, 1<<31 - 1, 1 << 31, 1<<31 + 5, math.MaxUint32} {
				m.Secs[i].Link = c
				may(t, m, c <= 5, api.ErrLink)
			}
		}
		for _, n := range []int{1, 2, 63, 64} {
			m := of(f)
			m.Secs, m.Str = manySecs(n), n
			check(t, m, nil)
			m.Secs[n-1].Link = uint32(n + 1)
			check(t, m, api.ErrLink)
		}
	})
}

// TestP14_1Info holds that Info isn't looked at.
func TestP14_1Info(t *testing.T) {
	each(t, func(t *testing.T, f api.Form) {
		m := ordinary(f)
		m.Secs[symbols].Info = math.MaxUint32
		check(t, m, nil)
	})
}

func TestP14_1Str(t *testing.T) {
	each(t, func(t *testing.T, f api.Form) {
		for _, n := range []int{0, 1, 5, 63, 64} {
			m := of(f)
			m.Secs = manySecs(n)
			for _, str := range append(ints(n), -1, 0, 1, n-1, n+1) {
				m.Str = str
				if str < 0 || str > n {
					check(t, m, api.ErrLink)
				} else {
					// Without a section Str names other than 0 are none.
					may(t, m, str > 0 || n < 2, api.ErrName)
				}
			}
		}
	})
}

func TestP14_1NoStr(t *testing.T) {
	each(t, func(t *testing.T, f api.Form) {
		m := ordinary(f)
		m.Str = 0
		check(t, m, api.ErrName)
		for i := range m.Secs {
			m.Secs[i].Name = 0
		}
		check(t, m, nil)
		for i := range m.Secs {
			for _, v := range []uint32{1, 7, 255, 256, 1 << 31, math.MaxUint32} {
				m.Secs[i].Name = v
				check(t, m, api.ErrName)
			}
			m.Secs[i].Name = 0
		}
	})
}

// TestP14_1StrOfAnotherType holds that section Str is one of names, with bytes of its own.
func TestP14_1StrOfAnotherType(t *testing.T) {
	each(t, func(t *testing.T, f api.Form) {
		for _, kind := range []uint32{1, 2, 4, 5, 11, 258, 259, 65539, 1<<31 + 3, math.MaxUint32} {
			m := ordinary(f)
			m.Secs[names].Type = kind
			check(t, m, api.ErrName)
			for i := range m.Secs {
				m.Secs[i].Name = 0
			}
			check(t, m, api.ErrName)
		}
		for i := range ordinary(f).Secs {
			m := ordinary(f)
			m.Str = i + 1
			may(t, m, i == names, api.ErrName)
			for k := range m.Secs {
				m.Secs[k].Name = 0
			}
			may(t, m, i == names, api.ErrName)
		}
	})
}

func TestP14_1StrInASegment(t *testing.T) {
	each(t, func(t *testing.T, f api.Form) {
		m := of(f, api.Seg{Type: api.Load, Memsz: 8, At: own(make([]byte, 8)...)})
		m.Secs = []api.Sec{{Type: api.StrTab, Size: 8, At: own(make([]byte, 8)...)}}
		m.Str = 1
		check(t, m, nil)
		m.Secs[0].At = in(0, 0, 8)
		check(t, m, api.ErrName)
		// Another section of names may have its bytes there.
		m.Secs = append(m.Secs, api.Sec{Type: api.StrTab, Size: 3, At: own(0, 'a', 0)})
		m.Str = 2
		check(t, m, nil)
	})
}

// TestP14_1StrWithoutBytes holds that no name, not even an empty one, stands among no bytes.
func TestP14_1StrWithoutBytes(t *testing.T) {
	each(t, func(t *testing.T, f api.Form) {
		m := of(f)
		m.Secs, m.Str = []api.Sec{{Type: api.StrTab, At: own()}}, 1
		check(t, m, api.ErrName)
		m.Secs[0] = api.Sec{Type: api.StrTab, Size: 1, At: own(0)}
		check(t, m, nil)
	})
}

func TestP14_1Name(t *testing.T) {
	each(t, func(t *testing.T, f api.Form) {
		last := uint32(len(ordinary(f).Secs[names].At.Own) - 1)
		for i := range ordinary(f).Secs {
			m := ordinary(f)
			for v := range last + 1 {
				m.Secs[i].Name = v
				check(t, m, nil)
			}
			for _, v := range []uint32{last + 1, last + 2, 255, 256, 65535, 65536, 1 << 31, 1<<31 + 1, math.MaxUint32 - 1, math.MaxUint32} {
				m.Secs[i].Name = v
				check(t, m, api.ErrName)
			}
		}
	})
}

// TestP14_1NameInEachTable holds each place of all tables of up to four bytes, whether a 0 is at their end or not.
func TestP14_1NameInEachTable(t *testing.T) {
	each(t, func(t *testing.T, f api.Form) {
		for n := range 5 {
			for k := range 1 << (2 * n) {
				table := make([]byte, n)
				behind := -1
				for i := range table {
					table[i] = byte(k >> (2 * i) & 3)
					if table[i] == 0 {
						behind = i
					}
				}
				m := of(f)
				m.Secs = []api.Sec{{Type: api.NoBits, Size: 9, At: own()}, {Type: api.StrTab, Size: uint64(n), At: own(table...)}}
				m.Str = 2
				for v := range uint32(6) {
					m.Secs[0].Name = v
					may(t, m, behind >= 0 && int(v) <= behind, api.ErrName)
					m.Secs[0].Name, m.Secs[1].Name = 0, v
					may(t, m, behind >= 0 && int(v) <= behind, api.ErrName)
					m.Secs[1].Name = 0
				}
			}
		}
	})
}

// TestP14_1NamesBehindVeryMany holds names in long tables.
func TestP14_1NamesBehindVeryMany(t *testing.T) {
	each(t, func(t *testing.T, f api.Form) {
		n := 1 << 20
		table := bytes.Repeat([]byte{'a'}, n)
		m := of(f)
		m.Secs, m.Str = []api.Sec{{Type: api.StrTab, Size: uint64(n), At: own(table...)}}, 1
		check(t, m, api.ErrName)
		m.Secs[0].Name = uint32(n - 1)
		check(t, m, api.ErrName)
		table[n-1] = 0
		check(t, m, nil)
		m.Secs[0].Name++
		check(t, m, api.ErrName)
	})
}
