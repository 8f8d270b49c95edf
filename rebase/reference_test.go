package rebase_test

import (
	"math/big"
	"slices"
	"testing"

	"bezant/api"
	"bezant/model"
	"bezant/rebase"
)

// spot is a byte of a segment's.
type spot struct{ seg, at int }

// byteAt tells where the byte of an address stands in the file.
func byteAt(m api.Model, addr uint64) (spot, bool) {
	for i, s := range m.Segs {
		if s.Type == 1 && addr >= s.Vaddr && addr-s.Vaddr < uint64(len(s.At.Own)) {
			return spot{i, int(addr - s.Vaddr)}, true
		}
	}
	return spot{}, false
}

// stretch tells where n bytes from an address on begin, if all of them are one segment's, one behind the other.
func stretch(m api.Model, addr, n uint64) (spot, bool) {
	first, ok := byteAt(m, addr)
	for k := uint64(0); ok && k < n; k++ {
		p, there := byteAt(m, addr+k)
		ok = there && p == spot{first.seg, first.at + int(k)}
	}
	return first, ok
}

// named are the words that are moved, in their order; those that are set have the number that they then are.
type named struct {
	spot
	set bool
	v   uint64
}

// placed tells the bytes of a segment of Type Dynamic, and whose they are.
func placed(m api.Model, s api.Seg) ([]byte, spot) {
	if s.At.In == -1 {
		return s.At.Own, spot{-1, 0}
	}
	return m.Segs[s.At.In].At.Own[s.At.Off : s.At.Off+s.At.Size], spot{s.At.In, int(s.At.Off)}
}

// entries tells a model's entries, and where the first one begins: its segment is -1, if they aren't among another one's bytes.
func entries(m api.Model) ([]api.Dyn, spot) {
	i := slices.IndexFunc(m.Segs, func(s api.Seg) bool { return s.Type == 2 })
	if i < 0 {
		return nil, spot{-1, 0}
	}
	b, from := placed(m, m.Segs[i])
	w := width(m.Ident.Form)
	var l []api.Dyn
	for ; len(b) >= 2*w; b = b[2*w:] {
		e := api.Dyn{Tag: number(m.Ident.Form, b), Val: number(m.Ident.Form, b[w:])}
		if e.Tag == 0 {
			return l, from
		}
		l = append(l, e)
	}
	return nil, from
}

// relocated tells the Offs of the relative relocations of two Tags, each of so many words.
func relocated(m api.Model, l []api.Dyn, tag, sizeTag uint64, words int) []uint64 {
	i := slices.IndexFunc(l, func(e api.Dyn) bool { return e.Tag == tag })
	k := slices.IndexFunc(l, func(e api.Dyn) bool { return e.Tag == sizeTag })
	if i < 0 || k < 0 || l[k].Val == 0 {
		return nil
	}
	from, ok := stretch(m, l[i].Val, l[k].Val)
	one := words * width(m.Ident.Form)
	if !ok || l[k].Val%uint64(one) != 0 {
		return nil
	}
	var offs []uint64
	for b := m.Segs[from.seg].At.Own[from.at:][:l[k].Val]; len(b) > 0; b = b[one:] {
		kind := number(m.Ident.Form, b[width(m.Ident.Form):])
		if m.Ident.Form.Wide {
			kind %= 1 << 32
		} else {
			kind %= 1 << 8
		}
		if kind == 8 && (m.Machine == 3 || m.Machine == 62) || kind == 1027 && m.Machine == 183 {
			offs = append(offs, number(m.Ident.Form, b))
		}
	}
	return offs
}

// addressTags are the Tags of entries that tell an address.
func addressTags() []uint64 {
	return []uint64{3, 4, 5, 6, 7, 12, 13, 17, 23, 25, 26, 32, 1879047925, 1879048176, 1879048188, 1879048190}
}

// words tells the words that are moved by d, in their order.
func words(m api.Model, d uint64) []named {
	w := width(m.Ident.Form)
	l, from := entries(m)
	var told []named
	for _, addr := range append(relocated(m, l, 7, 8, 3), relocated(m, l, 17, 18, 2)...) {
		if p, ok := stretch(m, addr, uint64(w)); ok {
			told = append(told, named{spot: p})
		}
	}
	for i, e := range l {
		among := slices.ContainsFunc(m.Segs, func(s api.Seg) bool {
			return s.Type == 1 && e.Val >= s.Vaddr && e.Val-s.Vaddr < s.Memsz
		})
		if among && from.seg >= 0 && slices.Contains(addressTags(), e.Tag) {
			told = append(told, named{spot{from.seg, from.at + 2*w*i + w}, true, e.Val + d})
		}
	}
	return told
}

// fault tells what is wrong with a move: 0, if nothing is.
func fault(m api.Model, d uint64) api.Code {
	if m.Type != 3 {
		return api.ErrType
	}
	greatest := uint64(0)
	for _, s := range m.Segs {
		greatest = max(greatest, s.Align)
	}
	if greatest > 1 && d%greatest != 0 {
		return api.ErrAlign
	}
	end := new(big.Int).Lsh(big.NewInt(1), uint(8*width(m.Ident.Form)))
	over := func(l ...uint64) bool {
		sum := new(big.Int)
		for _, v := range l {
			sum.Add(sum, new(big.Int).SetUint64(v))
		}
		return sum.Cmp(end) >= 0
	}
	if m.Entry != 0 && over(m.Entry, d) {
		return api.ErrWrap
	}
	for _, s := range m.Segs {
		if over(s.Vaddr, d) || s.Memsz > 0 && over(s.Vaddr, s.Memsz-1, d) {
			return api.ErrWrap
		}
	}
	for _, s := range m.Secs {
		if s.Flags/2%2 == 1 && over(s.Addr, d) {
			return api.ErrWrap
		}
	}
	return 0
}

// told tells the model that a move answers, by the chapter's words.
func told(m api.Model, d uint64) api.Model {
	n := further(m, d)
	for _, x := range words(m, d) {
		b := n.Segs[x.seg].At.Own[x.at:]
		if !x.set {
			x.v = number(m.Ident.Form, b) + d
		}
		copy(b, word(m.Ident.Form, x.v))
	}
	return n
}

// agree holds what Rebase answers of a model that may be against the reference, and against P19.2 and P19.3.
func agree(t *testing.T, m api.Model, d uint64) {
	t.Helper()
	if err := model.Check(m); err != nil {
		t.Fatalf("%v is told of %s", err, brief(m))
	}
	if code := fault(m, d); code != 0 {
		refuses(t, m, d, code)
		return
	}
	was := clone(m)
	n, err := rebase.Rebase(m, d)
	if err != nil || !model.Same(n, told(m, d)) {
		t.Errorf("by %#x: %v, %s, not %s, of %s", d, err, brief(n), brief(told(m, d)), brief(m))
	}
	if !model.Same(m, was) {
		t.Errorf("what was handed in is changed: %s", brief(was))
	}
	if err := model.Check(n); err != nil {
		t.Errorf("%v is told of what is moved by %#x: %s", err, d, brief(m))
	}
	if d == 0 && !model.Same(n, m) {
		t.Errorf("moved by nothing: %s, not %s", brief(n), brief(m))
	}
}
