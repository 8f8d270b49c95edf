package file

import (
	"bezant/api"
	"bezant/head"
	"bezant/plan"
	"bezant/prog"
	"bezant/sect"
)

// write tells the bytes of a model that may be, by its plan.
func write(m api.Model, p plan.Plan) []byte {
	f := m.Ident.Form
	b := make([]byte, p.Size)
	// No header is refused: layer 14 has held the model's numbers against the class, and no place is beyond MaxFile.
	first, _ := head.Put(header(m, p))
	copy(b, first)
	for i, s := range m.Segs {
		x, _ := prog.Put(progOf(s, p.Segs[i]), f)
		copy(b[entry(p.Phoff, i, prog.Size(f)):], x)
		copy(b[p.Segs[i]:], s.At.Own)
	}
	for i, s := range m.Secs {
		x, _ := sect.Put(sectOf(s, p.Secs[i]), f)
		// The first section header is one of 0s.
		copy(b[entry(p.Shoff, i+1, sect.Size(f)):], x)
		copy(b[p.Secs[i]:], s.At.Own)
	}
	return b
}

// header tells the header of a model's bytes.
func header(m api.Model, p plan.Plan) api.Head {
	h := api.Head{
		Ident:   m.Ident,
		Type:    m.Type,
		Machine: m.Machine,
		Entry:   m.Entry,
		Phoff:   p.Phoff,
		Shoff:   p.Shoff,
		Flags:   m.Flags,
		Phnum:   uint16(len(m.Segs)),
		Str:     uint16(m.Str),
	}
	if len(m.Secs) > 0 {
		h.Shnum = uint16(len(m.Secs) + 1)
	}
	return h
}

// progOf tells the program header of a segment whose bytes begin at off.
func progOf(s api.Seg, off uint64) api.Prog {
	return api.Prog{
		Type:   s.Type,
		Flags:  s.Flags,
		Off:    off,
		Vaddr:  s.Vaddr,
		Paddr:  s.Paddr,
		Filesz: s.At.Size,
		Memsz:  s.Memsz,
		Align:  s.Align,
	}
}

// sectOf tells the section header of a section whose bytes begin at off.
func sectOf(s api.Sec, off uint64) api.Sect {
	return api.Sect{
		Name:    s.Name,
		Type:    s.Type,
		Flags:   s.Flags,
		Addr:    s.Addr,
		Off:     off,
		Size:    s.Size,
		Link:    s.Link,
		Info:    s.Info,
		Align:   s.Align,
		Entsize: s.Entsize,
	}
}
