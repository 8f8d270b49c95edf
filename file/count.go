package file

import (
	"bezant/api"
	"bezant/prog"
	"bezant/sect"
	"bezant/wire"
)

// counts is how many headers a file has, and Str, wherever it keeps these numbers.
type counts struct{ progs, sects, str uint64 }

// count tells them, once all these headers are in the file.
func count(b []byte, h api.Head) (counts, error) {
	var first api.Sect
	if h.Shoff != 0 {
		var err error
		if first, err = sect.Get(b, h.Shoff, h.Ident.Form); err != nil {
			return counts{}, spot(places(h.Ident.Form).shoff, api.ErrRange)
		}
	}
	n := countsOf(h, first)
	if err := checkSects(b, h, n.sects); err != nil {
		return counts{}, err
	}
	if err := checkProgs(b, h, n.progs); err != nil {
		return counts{}, err
	}
	if h.Str == api.Escape && h.Shoff == 0 {
		return counts{}, spot(places(h.Ident.Form).str, api.ErrForm)
	}
	return n, nil
}

// countsOf tells them by the header and the first section header, which has room for those that the header has none for.
func countsOf(h api.Head, first api.Sect) counts {
	n := counts{progs: uint64(h.Phnum), sects: uint64(h.Shnum), str: uint64(h.Str)}
	if h.Phnum == api.Escape {
		n.progs = uint64(first.Info)
	}
	if h.Shnum == 0 {
		n.sects = first.Size
	}
	if h.Str == api.Escape {
		n.str = uint64(first.Link)
	}
	return n
}

// checkSects tells what is wrong first with how many section headers there are, and with where they stand.
func checkSects(b []byte, h api.Head, n uint64) error {
	f := h.Ident.Form
	switch {
	case h.Shoff == 0 && n != 0:
		return spot(places(f).shnum, api.ErrForm)
	case h.Shoff == 0:
		return nil
	case n == 0 || n > api.MaxSecs+1:
		return spot(places(f).shoff, api.ErrLarge)
	case !isIn(b, h.Shoff, n*uint64(sect.Size(f))):
		return spot(places(f).shoff, api.ErrRange)
	}
	return nil
}

// checkProgs tells what is wrong first with how many program headers there are, and with where they stand.
func checkProgs(b []byte, h api.Head, n uint64) error {
	f := h.Ident.Form
	switch {
	case h.Phnum == api.Escape && h.Shoff == 0:
		return spot(places(f).phnum, api.ErrForm)
	case n > api.MaxSegs:
		return spot(places(f).phnum, api.ErrLarge)
	case !isIn(b, h.Phoff, n*uint64(prog.Size(f))):
		return spot(places(f).phoff, api.ErrRange)
	}
	return nil
}

// isIn tells whether a file has n bytes from at on; none it always has.
func isIn(b []byte, at, n uint64) bool {
	return n == 0 || wire.Within(at, n, uint64(len(b)))
}

// numbers is where the numbers of the header stand that may be wrong.
type numbers struct{ phoff, shoff, phnum, shnum, str int }

// places tells where they stand in a class.
func places(f api.Form) numbers {
	if f.Wide {
		return numbers{phoff: 32, shoff: 40, phnum: 56, shnum: 60, str: 62}
	}
	return numbers{phoff: 28, shoff: 32, phnum: 44, shnum: 48, str: 50}
}
