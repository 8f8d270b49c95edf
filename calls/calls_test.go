// Package calls holds the calls that the chapters list against their signatures, and against P1.
package calls

import (
	"math"
	"testing"

	"bezant/api"
	"bezant/dyn"
	"bezant/file"
	"bezant/gnu"
	"bezant/head"
	"bezant/ident"
	"bezant/image"
	"bezant/model"
	"bezant/note"
	"bezant/plan"
	"bezant/prog"
	"bezant/rebase"
	"bezant/rel"
	"bezant/script"
	"bezant/sect"
	"bezant/span"
	"bezant/strip"
	"bezant/strs"
	"bezant/sym"
	"bezant/ver"
	"bezant/wire"
)

// A call whose signature changes no longer compiles here.
var (
	_ func([]byte, uint64, int, bool) (uint64, bool)        = wire.Get
	_ func(uint64, int, bool) []byte                        = wire.Put
	_ func(uint64, int) bool                                = wire.Fits
	_ func(uint64, uint64, uint64) bool                     = wire.Within
	_ func(span.Span, span.Span) bool                       = span.Meet
	_ func([]span.Span) (int, int, bool)                    = span.Clash
	_ func([]span.Span) bool                                = span.Rising
	_ func(api.Ident) []byte                                = ident.Put
	_ func([]byte) (api.Ident, error)                       = ident.Get
	_ func(api.Form) int                                    = head.Size
	_ func(api.Head) ([]byte, error)                        = head.Put
	_ func([]byte) (api.Head, error)                        = head.Get
	_ func(api.Form) int                                    = prog.Size
	_ func(api.Prog, api.Form) ([]byte, error)              = prog.Put
	_ func([]byte, uint64, api.Form) (api.Prog, error)      = prog.Get
	_ func(api.Form) int                                    = sect.Size
	_ func(api.Sect, api.Form) ([]byte, error)              = sect.Put
	_ func([]byte, uint64, api.Form) (api.Sect, error)      = sect.Get
	_ func([]byte, uint64) (string, bool)                   = strs.Get
	_ func([]string) ([]byte, []uint64, error)              = strs.Build
	_ func([]api.Sym, api.Form) ([]byte, error)             = sym.Put
	_ func([]byte, api.Form) ([]api.Sym, error)             = sym.All
	_ func([]api.Sym, []byte, api.Form, int) (uint32, bool) = sym.Index
	_ func(api.Form, bool) int                              = rel.Size
	_ func([]api.Rel, api.Form, bool) ([]byte, error)       = rel.Put
	_ func([]byte, api.Form, bool) ([]api.Rel, error)       = rel.All
	_ func([]api.Dyn, api.Form) ([]byte, error)             = dyn.Put
	_ func([]byte, api.Form) ([]api.Dyn, error)             = dyn.All
	_ func([]api.Dyn, uint64) (uint64, bool)                = dyn.Find
	_ func([]api.Note, api.Form) []byte                     = note.Put
	_ func([]byte, api.Form) ([]api.Note, error)            = note.All
	_ func(string) uint32                                   = gnu.Hash
	_ func([]string, int) []int                             = gnu.Order
	_ func(gnu.Table, []string, api.Form) ([]byte, error)   = gnu.Build
	_ func([]byte, []string, api.Form, string) (int, bool)  = gnu.Lookup
	_ func([]api.Def, bool) ([]byte, error)                 = ver.PutDefs
	_ func([]byte, bool) ([]api.Def, error)                 = ver.Defs
	_ func([]api.Need, bool) ([]byte, error)                = ver.PutNeeds
	_ func([]byte, bool) ([]api.Need, error)                = ver.Needs
	_ func(api.Model, api.Place) []byte                     = model.Bytes
	_ func(api.Model) error                                 = model.Check
	_ func(api.Model, api.Model) bool                       = model.Same
	_ func(api.Model) (plan.Plan, error)                    = plan.Of
	_ func(api.Model) ([]byte, error)                       = file.Encode
	_ func([]byte) (api.Model, error)                       = file.Parse
	_ func([]byte) (api.Image, error)                       = image.File
	_ func(api.Model) api.Image                             = image.Model
	_ func(api.Image, uint64) (byte, uint32, bool)          = image.At
	_ func(api.Model) []bool                                = strip.Goes
	_ func(api.Model) api.Model                             = strip.Strip
	_ func(api.Model, uint64) (api.Model, error)            = rebase.Rebase
	_ func([]byte, []script.Step) ([]byte, error)           = script.Run
	_                                                       = span.Span{From: 0, Size: 0}
	_                                                       = gnu.Table{First: 0, Buckets: 0, Words: 0, Shift: 0}
	_                                                       = plan.Plan{Phoff: 0, Shoff: 0, Size: 0, Segs: []uint64{}, Secs: []uint64{}}
	_                                                       = script.Step{Kind: 0, D: uint64(0)}
)

var (
	forms  = []api.Form{{}, {Wide: true}, {Big: true}, {Wide: true, Big: true}}
	places = []uint64{0, 1, 7, 64, 1<<32 - 1, 1 << 63, math.MaxUint64 - 7, math.MaxUint64}
	counts = []int{math.MinInt, -1, 0, 1, 2, 3, 4, 8, 63, 64, math.MaxInt}
)

// oddBytes tells none, all of one kind, and the beginnings of a file that promises more than it has.
func oddBytes() [][]byte {
	full, zero := make([]byte, 200), make([]byte, 200)
	for i := range full {
		full[i] = 0xff
	}
	all := [][]byte{nil, {}, {0}, {0xff}, full, zero}
	for class := range byte(4) {
		for order := range byte(4) {
			b := append([]byte{0x7f, 'E', 'L', 'F', class, order, 1}, full...)
			all = append(all, b, b[:7], b[:16], b[:52], b[:64])
		}
	}
	return all
}

// oddModels tells models that may not be.
func oddModels() []api.Model {
	const top = math.MaxUint64
	bad := []api.Place{
		{}, {In: -1}, {In: -2, Size: 1}, {In: 99, Off: top, Size: top}, {In: math.MinInt, Own: []byte{1}},
		{In: math.MaxInt, Size: 3}, {In: 0, Off: top, Size: 2}, {In: -1, Off: 5, Size: top, Own: []byte{1, 2}},
	}
	var all []api.Model
	for _, p := range bad {
		seg := api.Seg{Type: api.Load, Vaddr: top, Paddr: top, Memsz: top, Align: 3, At: p}
		sec := api.Sec{Name: math.MaxUint32, Type: api.SymTab, Addr: top, Size: top, Link: 99, Info: 99, Align: top, Entsize: 1, At: p}
		for _, str := range counts {
			m := api.Model{Type: api.Shared, Entry: top, Str: str, Segs: []api.Seg{seg, seg}, Secs: []api.Sec{sec, sec}}
			all = append(all, m, api.Model{Str: str, Secs: m.Secs}, api.Model{Str: str, Segs: m.Segs})
		}
	}
	return append(all, api.Model{}, api.Model{Segs: make([]api.Seg, 70), Secs: make([]api.Sec, 70), Str: 70})
}

func TestP1CallsOfNumbers(t *testing.T) {
	for _, v := range places {
		for _, n := range counts {
			wire.Put(v, n, true)
			wire.Fits(v, n)
			for _, b := range oddBytes() {
				wire.Get(b, v, n, false)
				wire.Get(b, v, n, true)
			}
		}
		for _, w := range places {
			wire.Within(v, w, v)
			a, b := span.Span{From: v, Size: w}, span.Span{From: w, Size: v}
			span.Meet(a, b)
			span.Clash([]span.Span{a, b, a})
			span.Rising([]span.Span{a, b, a})
		}
	}
	span.Clash(nil)
	span.Rising(nil)
}

func TestP1CallsThatRead(t *testing.T) {
	for _, b := range oddBytes() {
		ident.Get(b)
		head.Get(b)
		file.Parse(b)
		image.File(b)
		script.Run(b, nil)
		script.Run(b, []script.Step{{Kind: -1}, {Kind: 1}, {Kind: 2, D: math.MaxUint64}, {Kind: math.MaxInt}})
		script.Run(b, make([]script.Step, 30))
		for _, big := range []bool{false, true} {
			ver.Defs(b, big)
			ver.Needs(b, big)
		}
		for _, v := range places {
			strs.Get(b, v)
		}
		for _, f := range forms {
			readByForm(b, f)
		}
	}
}

func readByForm(b []byte, f api.Form) {
	for _, v := range places {
		prog.Get(b, v, f)
		sect.Get(b, v, f)
	}
	sym.All(b, f)
	rel.All(b, f, false)
	rel.All(b, f, true)
	dyn.All(b, f)
	note.All(b, f)
	gnu.Lookup(b, nil, f, "")
	gnu.Lookup(b, []string{"", "a", "b"}, f, "a")
	for _, i := range counts {
		sym.Index(nil, b, f, i)
		sym.Index([]api.Sym{{Shndx: api.Escape}, {Shndx: 1}}, b, f, i)
	}
}

func TestP1CallsThatWrite(t *testing.T) {
	const top = math.MaxUint64
	ident.Put(api.Ident{})
	strs.Build(nil)
	strs.Build([]string{"", "a\x00b", "a", "a"})
	dyn.Find(nil, 0)
	dyn.Find(nil, top)
	dyn.Find([]api.Dyn{{Tag: 1}, {}, {Tag: top, Val: top}}, top)
	gnu.Hash("")
	gnu.Hash("\xff\x00\xfe")
	for _, big := range []bool{false, true} {
		ver.PutDefs(nil, big)
		ver.PutDefs([]api.Def{{}, {Names: make([]uint32, 70000)}}, big)
		ver.PutNeeds(nil, big)
		ver.PutNeeds([]api.Need{{}, {Auxs: make([]api.Aux, 70000)}}, big)
	}
	for _, f := range forms {
		writeByForm(f)
	}
}

func writeByForm(f api.Form) {
	const top = math.MaxUint64
	head.Size(f)
	head.Put(api.Head{Ident: api.Ident{Form: f}, Entry: top, Phoff: top, Shoff: top})
	prog.Size(f)
	prog.Put(api.Prog{Off: top, Memsz: top}, f)
	sect.Size(f)
	sect.Put(api.Sect{Flags: top, Size: top}, f)
	sym.Put(nil, f)
	sym.Put([]api.Sym{{Value: top}}, f)
	dyn.Put(nil, f)
	dyn.Put([]api.Dyn{{Tag: top}, {}}, f)
	note.Put(nil, f)
	note.Put([]api.Note{{}, {Name: []byte{1}, Desc: []byte{2, 3, 4, 5, 6}}}, f)
	for _, adds := range []bool{false, true} {
		rel.Size(f, adds)
		rel.Put(nil, f, adds)
		rel.Put([]api.Rel{{Off: top, Sym: math.MaxUint32, Type: math.MaxUint32, Add: math.MinInt64}}, f, adds)
	}
	for _, n := range counts {
		gnu.Order(nil, n)
		gnu.Order([]string{"a", "", "a"}, n)
		for _, k := range counts {
			gnu.Build(gnu.Table{First: n, Buckets: k, Words: k, Shift: n}, []string{"a", "b"}, f)
			gnu.Build(gnu.Table{First: k, Buckets: 1, Words: n, Shift: k}, nil, f)
		}
	}
}

// TestP1CallsOfModels is all that R4 says of models that may not be.
func TestP1CallsOfModels(t *testing.T) {
	for _, m := range oddModels() {
		model.Check(m)
		model.Same(m, m)
		model.Same(m, api.Model{})
		model.Bytes(m, api.Place{In: -1})
		for _, s := range m.Segs {
			model.Bytes(m, s.At)
		}
		plan.Of(m)
		file.Encode(m)
		image.Model(m)
		strip.Goes(m)
		strip.Strip(m)
		for _, d := range places {
			rebase.Rebase(m, d)
		}
	}
	for _, v := range places {
		image.At(api.Image{}, v)
		image.At(api.Image{Regions: []api.Region{{Addr: v, Size: math.MaxUint64, Bytes: []byte{1}}, {}}}, v)
	}
}
