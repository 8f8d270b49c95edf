package file

import (
	"bytes"

	"bezant/api"
	"bezant/prog"
	"bezant/sect"
	"bezant/wire"
)

// tables is a file, and what its headers tell, but for its own one.
type tables struct {
	b     []byte
	progs []api.Prog
	sects []api.Sect // but the first one
	str   uint64
}

// read tells the tables of a file that has all of them, once what they tell of is in it, too.
func read(b []byte, h api.Head, n counts) (tables, error) {
	t := tables{b: b, str: n.str}
	f := h.Ident.Form
	for i := range int(n.progs) {
		at := entry(h.Phoff, i, prog.Size(f))
		p, err := prog.Get(b, at, f)
		if err != nil || !isIn(b, p.Off, p.Filesz) {
			return tables{}, spot(int(at), api.ErrRange)
		}
		t.progs = append(t.progs, p)
	}
	for i := 1; i < int(n.sects); i++ {
		at := entry(h.Shoff, i, sect.Size(f))
		s, err := sect.Get(b, at, f)
		if err != nil || !hasNoBytes(s.Type) && !isIn(b, s.Off, s.Size) {
			return tables{}, spot(int(at), api.ErrRange)
		}
		t.sects = append(t.sects, s)
	}
	return t, nil
}

// model tells a file's model, also one that may not be.
func (t tables) model(h api.Head) api.Model {
	m := api.Model{
		Ident:   h.Ident,
		Type:    h.Type,
		Machine: h.Machine,
		Flags:   h.Flags,
		Entry:   h.Entry,
		Str:     int(t.str),
	}
	for _, p := range t.progs {
		m.Segs = append(m.Segs, segOf(p, t.progPlace(p)))
	}
	for i, s := range t.sects {
		m.Secs = append(m.Secs, secOf(s, t.sectPlace(i)))
	}
	return m
}

// progPlace tells the place of a program header's bytes.
func (t tables) progPlace(p api.Prog) api.Place {
	if p.Type == api.Load {
		return t.ownPlace(p.Off, p.Filesz)
	}
	return t.find(p.Off, p.Filesz)
}

// sectPlace tells the place of a section header's bytes.
func (t tables) sectPlace(i int) api.Place {
	s := t.sects[i]
	switch {
	case hasNoBytes(s.Type):
		return t.ownPlace(0, 0)
	// Str counts the first section header, too.
	case uint64(i)+1 == t.str:
		return t.ownPlace(s.Off, s.Size)
	}
	return t.find(s.Off, s.Size)
}

// find tells the place of bytes that are in the file: in the first loaded segment that has all of them, or their own.
func (t tables) find(off, size uint64) api.Place {
	for i, p := range t.progs {
		if size > 0 && p.Type == api.Load && off >= p.Off && wire.Within(off-p.Off, size, p.Filesz) {
			return api.Place{In: i, Off: off - p.Off, Size: size}
		}
	}
	return t.ownPlace(off, size)
}

// ownPlace tells the place of bytes that are in the file, as its own.
func (t tables) ownPlace(off, size uint64) api.Place {
	// Where there are none, off may be any.
	if size == 0 {
		return api.Place{In: own}
	}
	return api.Place{In: own, Size: size, Own: bytes.Clone(t.b[off : off+size])}
}

// segOf tells the segment of a program header.
func segOf(p api.Prog, at api.Place) api.Seg {
	return api.Seg{
		Type:  p.Type,
		Flags: p.Flags,
		Vaddr: p.Vaddr,
		Paddr: p.Paddr,
		Memsz: p.Memsz,
		Align: p.Align,
		At:    at,
	}
}

// secOf tells the section of a section header.
func secOf(s api.Sect, at api.Place) api.Sec {
	return api.Sec{
		Name:    s.Name,
		Type:    s.Type,
		Flags:   s.Flags,
		Addr:    s.Addr,
		Size:    s.Size,
		Link:    s.Link,
		Info:    s.Info,
		Align:   s.Align,
		Entsize: s.Entsize,
		At:      at,
	}
}
