package file_test

import (
	"bytes"
	"math/bits"
	"testing"

	"bezant/api"
	"bezant/file"
	"bezant/head"
	"bezant/model"
	"bezant/plan"
)

// The reference reads a file by the chapter's words, one after the other, with a reading of numbers of its own. Layers 4 and 15 have references of their own.

// scan is a file that the reference reads; n... tell how many headers there are.
type scan struct {
	draft
	nProg, nSect, str uint64
}

// told tells what Parse is to answer: a model, or a Spot.
func told(b []byte) (api.Model, *api.Spot) {
	if len(b) > 65536 {
		return api.Model{}, &api.Spot{At: 65536, Code: api.ErrLarge}
	}
	h, err := head.Get(b)
	if err != nil {
		return api.Model{}, err.(*api.Spot)
	}
	s := scan{draft: draft{b: b, f: h.Ident.Form}}
	if spot := s.headers(); spot != nil {
		return api.Model{}, spot
	}
	if spot := s.bytes(); spot != nil {
		return api.Model{}, spot
	}
	m := s.model(h)
	if _, err := plan.Of(m); err != nil {
		return api.Model{}, &api.Spot{At: 0, Code: err.(api.Code)}
	}
	return m, nil
}

// has tells whether the file has so many bytes from at on.
func (s *scan) has(at, n uint64) bool {
	end, over := bits.Add64(at, n, 0)
	return over == 0 && end <= uint64(len(s.b))
}

func (s *scan) headGet(name string) uint64 { return s.get(0, layoutOf(s.f).headNumbers, name) }

func (s *scan) progGet(i int, name string) uint64 {
	return s.get(s.progAt(i), layoutOf(s.f).progNumbers, name)
}

func (s *scan) sectGet(i int, name string) uint64 {
	return s.get(s.sectAt(i), layoutOf(s.f).sectNumbers, name)
}

// headers tells what is wrong first with where the headers stand, and with how many there are.
func (s *scan) headers() *api.Spot {
	l := layoutOf(s.f)
	wrong := func(name string, code api.Code) *api.Spot { return &api.Spot{At: s.at(name), Code: code} }
	phnum, shnum, str, shoff, phoff := s.headGet("phnum"), s.headGet("shnum"), s.headGet("str"), s.headGet("shoff"), s.headGet("phoff")
	s.nProg, s.nSect, s.str = phnum, shnum, str
	if shoff != 0 {
		if !s.has(shoff, uint64(l.sect)) {
			return wrong("shoff", api.ErrRange)
		}
		s.shoff = int(shoff)
		if shnum == 0 {
			s.nSect = s.sectGet(0, "size")
		}
		if s.nSect == 0 || s.nSect > 65 {
			return wrong("shoff", api.ErrLarge)
		}
		if !s.has(shoff, s.nSect*uint64(l.sect)) {
			return wrong("shoff", api.ErrRange)
		}
	} else if shnum != 0 {
		return wrong("shnum", api.ErrForm)
	}
	if phnum == 65535 {
		if shoff == 0 {
			return wrong("phnum", api.ErrForm)
		}
		s.nProg = s.sectGet(0, "info")
	}
	if s.nProg > 16 {
		return wrong("phnum", api.ErrLarge)
	}
	if s.nProg > 0 && !s.has(phoff, s.nProg*uint64(l.prog)) {
		return wrong("phoff", api.ErrRange)
	}
	if s.nProg > 0 {
		s.phoff = int(phoff)
	}
	if str == 65535 {
		if shoff == 0 {
			return wrong("str", api.ErrForm)
		}
		s.str = s.sectGet(0, "link")
	}
	return nil
}

// bytes tells the first header whose bytes aren't in the file.
func (s *scan) bytes() *api.Spot {
	for i := range int(s.nProg) {
		if n := s.progGet(i, "filesz"); n != 0 && !s.has(s.progGet(i, "off"), n) {
			return &api.Spot{At: s.progAt(i), Code: api.ErrRange}
		}
	}
	for i := 1; i < int(s.nSect); i++ {
		if n := s.held(i); n != 0 && !s.has(s.sectGet(i, "off"), n) {
			return &api.Spot{At: s.sectAt(i), Code: api.ErrRange}
		}
	}
	return nil
}

// held tells how many bytes a section header has in the file.
func (s *scan) held(i int) uint64 {
	if kind := s.sectGet(i, "type"); kind == 0 || kind == 8 {
		return 0
	}
	return s.sectGet(i, "size")
}

func (s *scan) model(h api.Head) api.Model {
	m := api.Model{Ident: h.Ident, Type: h.Type, Machine: h.Machine, Flags: h.Flags, Entry: h.Entry, Str: int(s.str)}
	for i := range int(s.nProg) {
		m.Segs = append(m.Segs, api.Seg{
			Type: uint32(s.progGet(i, "type")), Flags: uint32(s.progGet(i, "flags")),
			Vaddr: s.progGet(i, "vaddr"), Paddr: s.progGet(i, "paddr"), Memsz: s.progGet(i, "memsz"), Align: s.progGet(i, "align"),
			At: s.place(s.progGet(i, "off"), s.progGet(i, "filesz"), s.progGet(i, "type") == 1),
		})
	}
	for i := 1; i < int(s.nSect); i++ {
		m.Secs = append(m.Secs, api.Sec{
			Name: uint32(s.sectGet(i, "name")), Type: uint32(s.sectGet(i, "type")), Flags: s.sectGet(i, "flags"),
			Addr: s.sectGet(i, "addr"), Size: s.sectGet(i, "size"), Link: uint32(s.sectGet(i, "link")), Info: uint32(s.sectGet(i, "info")),
			Align: s.sectGet(i, "align"), Entsize: s.sectGet(i, "entsize"),
			At: s.place(s.sectGet(i, "off"), s.held(i), uint64(i) == s.str),
		})
	}
	return m
}

// place tells where bytes are: byte by byte it is asked which segment has all of them, but where they are to be own ones.
func (s *scan) place(off, size uint64, own bool) api.Place {
	p := api.Place{In: -1, Size: size}
	if size == 0 {
		return p
	}
	for i := 0; i < int(s.nProg) && !own; i++ {
		first, n := s.progGet(i, "off"), s.progGet(i, "filesz")
		if s.progGet(i, "type") != 1 {
			continue
		}
		all := true
		for at := off; all && at < off+size; at++ {
			all = at >= first && at < first+n
		}
		if all {
			return api.Place{In: i, Off: off - first, Size: size}
		}
	}
	for at := off; at < off+size; at++ {
		p.Own = append(p.Own, s.b[at])
	}
	return p
}

// agree holds what Parse answers against the reference; of a model that is read also T1 and T2, of an error T3.
func agree(t *testing.T, b []byte) {
	t.Helper()
	want, wrong := told(b)
	m, err := file.Parse(b)
	if wrong != nil {
		spot, ok := err.(*api.Spot)
		if !ok || *spot != *wrong || !isZero(m) {
			t.Errorf("Parse tells %s, %v, not %v", brief(m), err, wrong)
		}
		if wrong.At < 0 || wrong.At > len(b) {
			t.Errorf("%v is told of %d bytes", wrong, len(b))
		}
		return
	}
	if err != nil || !model.Same(m, want) {
		t.Errorf("Parse tells %s, %v, not %s", brief(m), err, brief(want))
		return
	}
	again(t, m)
}

// again holds T1 and T2 of a model that was read: it may be, it is written, and read back; what is written then is the same.
func again(t *testing.T, m api.Model) {
	t.Helper()
	if err := model.Check(m); err != nil {
		t.Errorf("%v is told of a model that was read: %s", err, brief(m))
	}
	b, err := file.Encode(m)
	if err != nil {
		t.Errorf("%v is told of a model that was read: %s", err, brief(m))
		return
	}
	x, err := file.Parse(b)
	if err != nil || !model.Same(x, m) {
		t.Errorf("what is written is read as %s, %v, not %s", brief(x), err, brief(m))
		return
	}
	c, err := file.Encode(x)
	if err != nil || !bytes.Equal(b, c) {
		t.Errorf("what is written, read, and written again is another file: %v, of %s", err, brief(m))
	}
}
