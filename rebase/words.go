package rebase

import (
	"slices"

	"bezant/api"
	"bezant/dyn"
	"bezant/model"
	"bezant/rel"
	"bezant/wire"
)

// Tags of entries that tell where relocations are, and how many bytes they have.
const (
	withAdd        = 7
	withAddSize    = 8
	withoutAdd     = 17
	withoutAddSize = 18
)

// moveWords adds d to the words that are addresses, in the bytes of segments of Type Load: P19.1.
func moveWords(m api.Model, d uint64) {
	at, l := dynamic(m)
	// All are read ahead of the first change, for words can be bytes of entries and of relocations as well.
	for _, r := range slices.Concat(relocations(m, l, true), relocations(m, l, false)) {
		if isRelative(r, m.Machine) {
			moveWord(m, r.Off, d)
		}
	}
	if at.In != own {
		moveEntries(m, at, l, d)
	}
}

// moveWord adds d to the word at an address, where there is one.
func moveWord(m api.Model, addr, d uint64) {
	f := m.Ident.Form
	i, at, ok := find(m, addr, uint64(width(f)))
	if !ok {
		return
	}
	b := m.Segs[i].At.Own
	v, _ := wire.Get(b, at, width(f), f.Big)
	put(b, at, v+d, f)
}

// moveEntries lays Val and d over Val of each address's entry; the entries stand from that place on.
func moveEntries(m api.Model, at api.Place, l []api.Dyn, d uint64) {
	f := m.Ident.Form
	n := uint64(width(f))
	for i, e := range l {
		if isAddress(e.Tag) && isAmong(m, e.Val) {
			// A relocation may have changed the word, but Val is as it was ahead of that.
			put(m.Segs[at.In].At.Own, at.Off+n*uint64(2*i+1), e.Val+d, f)
		}
	}
}

// put lays a word into bytes that have room for it there.
func put(b []byte, at, v uint64, f api.Form) { copy(b[at:], wire.Put(v, width(f), f.Big)) }

// width tells how many bytes a word has.
func width(f api.Form) int {
	if f.Wide {
		return 8
	}
	return 4
}

// dynamic tells the place of the first segment of Type Dynamic, and its entries.
func dynamic(m api.Model) (api.Place, []api.Dyn) {
	for _, s := range m.Segs {
		if s.Type == api.Dynamic {
			// With an error there are none, so it needn't be asked.
			l, _ := dyn.All(model.Bytes(m, s.At), m.Ident.Form)
			return s.At, l
		}
	}
	return api.Place{In: own}, nil
}

// relocations tells a model's relocations, with Add or without, by its entries.
func relocations(m api.Model, l []api.Dyn, adds bool) []api.Rel {
	tag, sizeTag := uint64(withoutAdd), uint64(withoutAddSize)
	if adds {
		tag, sizeTag = withAdd, withAddSize
	}
	addr, hasAddr := dyn.Find(l, tag)
	n, hasSize := dyn.Find(l, sizeTag)
	if !hasAddr || !hasSize {
		return nil
	}
	i, at, ok := find(m, addr, n)
	if !ok {
		return nil
	}
	// With an error there are none, so it needn't be asked.
	all, _ := rel.All(m.Segs[i].At.Own[at:at+n], m.Ident.Form, adds)
	return all
}

// find tells the segment of Type Load that has n bytes from an address on in the file, and where among its own they begin.
func find(m api.Model, addr, n uint64) (int, uint64, bool) {
	for i, s := range m.Segs {
		if s.Type == api.Load && addr >= s.Vaddr && wire.Within(addr-s.Vaddr, n, uint64(len(s.At.Own))) {
			return i, addr - s.Vaddr, true
		}
	}
	return 0, 0, false
}

// isRelative tells whether a relocation is relative, on that Machine.
func isRelative(r api.Rel, machine uint16) bool {
	switch machine {
	case 3, 62:
		return r.Type == 8
	case 183:
		return r.Type == 1027
	}
	return false
}

// isAddress tells whether entries of a Tag have an address as Val.
func isAddress(tag uint64) bool {
	switch tag {
	case 3, 4, 5, 6, 7, 12, 13, 17, 23, 25, 26, 32, 0x6ffffef5, 0x6ffffff0, 0x6ffffffc, 0x6ffffffe:
		return true
	}
	return false
}

// isAmong tells whether an address is in a segment of Type Load, in the file or behind its bytes there.
func isAmong(m api.Model, addr uint64) bool {
	return slices.ContainsFunc(m.Segs, func(s api.Seg) bool {
		return s.Type == api.Load && addr >= s.Vaddr && addr-s.Vaddr < s.Memsz
	})
}
