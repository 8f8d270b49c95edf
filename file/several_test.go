package file_test

import (
	"math"
	"testing"

	"bezant/api"
)

// flaws tells what may be amiss with an ordinary model's file, in the order in which it is told. Each sets all that it hangs on, so that it stands also behind others that are done ahead of it.
func flaws(f api.Form) []flaw {
	at := func(narrow, wide int) int {
		if f.Wide {
			return wide
		}
		return narrow
	}
	l := []flaw{{func(d *draft) { d.b = append(d.b, make([]byte, 65537-len(d.b))...) }, 65536, api.ErrLarge}}
	l = append(l, headFlaws(at)...)
	l = append(l, tableFlaws(at)...)
	d := draft{f: f, phoff: at(52, 64)}
	for i := range 6 {
		l = append(l, flaw{func(d *draft) { tables(d); d.prog(i, "filesz", 65537) }, d.progAt(i), api.ErrRange})
	}
	d.shoff = at(320, 512)
	// The third and the fourth section are of NoBits and of Null.
	for _, i := range []int{1, 2, 5, 6} {
		l = append(l, flaw{func(d *draft) { tables(d); d.sect(i, "size", 65537) }, d.sectAt(i), api.ErrRange})
	}
	for i := range layer15(f) {
		x := layer15(f)[i]
		l = append(l, flaw{func(d *draft) { tables(d); x.do(d) }, 0, x.code})
	}
	return l
}

// headFlaws tells those of layer 4.
func headFlaws(at func(narrow, wide int) int) []flaw {
	return []flaw{
		{func(d *draft) { d.b[0] = 0 }, 0, api.ErrMagic},
		{func(d *draft) { d.b[3] = 'f' }, 3, api.ErrMagic},
		{func(d *draft) { d.b[4] = 3 }, 4, api.ErrForm},
		{func(d *draft) { d.b[6] = 0 }, 6, api.ErrForm},
		{func(d *draft) { d.b = d.b[:40] }, 40, api.ErrShort},
		{func(d *draft) { d.head("version", 2) }, 20, api.ErrForm},
		{func(d *draft) { d.head("headsize", 63) }, at(40, 52), api.ErrForm},
		{func(d *draft) { d.head("phnum", 6); d.head("progsize", 55) }, at(42, 54), api.ErrForm},
		{func(d *draft) { d.head("shoff", uint64(d.shoff)); d.head("sectsize", 39) }, at(46, 58), api.ErrForm},
	}
}

// tables lets the header tell of the tables that an ordinary model's file has.
func tables(d *draft) {
	d.head("shoff", uint64(d.shoff))
	d.head("shnum", 7)
	d.head("phoff", uint64(d.phoff))
	d.head("phnum", 6)
	d.head("str", 2)
}

// tableFlaws tells those of where the tables stand, and of how many headers they have.
func tableFlaws(at func(narrow, wide int) int) []flaw {
	shoff, shnum, phnum, phoff, str := at(32, 40), at(48, 60), at(44, 56), at(28, 32), at(50, 62)
	none := func(d *draft) { d.head("shoff", 0); d.head("shnum", 0); d.head("phnum", 6) }
	return []flaw{
		{func(d *draft) { d.head("shoff", uint64(len(d.b)-1)); d.head("shnum", 66) }, shoff, api.ErrRange},
		{func(d *draft) { d.head("shoff", top(d.f)); d.head("shnum", 0) }, shoff, api.ErrRange},
		{func(d *draft) { tables(d); d.head("shnum", 66) }, shoff, api.ErrLarge},
		{func(d *draft) { tables(d); d.head("shnum", 0); d.sect(0, "size", 0) }, shoff, api.ErrLarge},
		{func(d *draft) { tables(d); d.head("shnum", 0); d.sect(0, "size", top(d.f)) }, shoff, api.ErrLarge},
		{func(d *draft) { tables(d); d.head("shoff", uint64(len(d.b)-7*layoutOf(d.f).sect+1)) }, shoff, api.ErrRange},
		{func(d *draft) { d.head("shoff", 0); d.head("shnum", 1) }, shnum, api.ErrForm},
		{func(d *draft) { none(d); d.head("phnum", 65535) }, phnum, api.ErrForm},
		{func(d *draft) { none(d); d.head("phnum", 17) }, phnum, api.ErrLarge},
		{func(d *draft) { tables(d); d.head("phnum", 65535); d.sect(0, "info", 17) }, phnum, api.ErrLarge},
		{func(d *draft) { tables(d); d.head("phoff", uint64(len(d.b))) }, phoff, api.ErrRange},
		{func(d *draft) { none(d); d.head("phoff", top(d.f)) }, phoff, api.ErrRange},
		{func(d *draft) { none(d); d.head("phoff", uint64(d.phoff)); d.head("str", 65535) }, str, api.ErrForm},
	}
}

// amiss does those flaws to an ordinary model's file, the last one first, and holds that the first one is told.
func amiss(t *testing.T, f api.Form, l []flaw, which ...int) {
	t.Helper()
	d := lay(t, ordinary(f))
	for k := len(which) - 1; k >= 0; k-- {
		l[which[k]].do(d)
	}
	refuses(t, d.b, l[which[0]].at, l[which[0]].code)
}

// TestR1EachAlone holds each flaw by itself.
func TestR1EachAlone(t *testing.T) {
	each(t, func(t *testing.T, f api.Form) {
		d := lay(t, ordinary(f))
		l := layoutOf(f)
		if d.phoff != l.header || d.shoff != len(d.b)-7*l.sect {
			t.Fatal("the tables stand elsewhere", d.phoff, d.shoff)
		}
		for i := range flaws(f) {
			amiss(t, f, flaws(f), i)
		}
	})
}

// isCut tells whether that flaw leaves no table in the file.
func isCut(l []flaw, i int) bool { return l[i].code == api.ErrShort }

// isLayer15 tells whether that flaw is told At 0, of the model as it is read.
func isLayer15(l []flaw, i int) bool { return l[i].at == 0 && l[i].code != api.ErrMagic }

// TestR1TwoAtOnce holds each two flaws at once: the first one is told.
func TestR1TwoAtOnce(t *testing.T) {
	each(t, func(t *testing.T, f api.Form) {
		l := flaws(f)
		for i := range l {
			for k := i + 1; k < len(l); k++ {
				// Layer 15 has an order of its own, and a file that is cut off has no table that others could alter.
				if isLayer15(l, i) || isCut(l, k) {
					continue
				}
				amiss(t, f, l, i, k)
			}
		}
	})
}

// TestR1ThreeAtOnce holds each three flaws at once.
func TestR1ThreeAtOnce(t *testing.T) {
	each(t, func(t *testing.T, f api.Form) {
		l := flaws(f)
		for i := range l {
			for k := i + 1; k < len(l); k++ {
				for n := k + 1; n < len(l); n++ {
					if isLayer15(l, i) || isCut(l, k) || isCut(l, n) {
						continue
					}
					amiss(t, f, l, i, k, n)
				}
			}
		}
	})
}

// TestR1AllFromOneOn holds as many flaws at once as there are.
func TestR1AllFromOneOn(t *testing.T) {
	each(t, func(t *testing.T, f api.Form) {
		l := flaws(f)
		var which []int
		for i := len(l) - 1; i >= 0; i-- {
			if isCut(l, i) {
				amiss(t, f, l, append([]int{i}, which...)...)
				continue
			}
			which = append([]int{i}, which...)
			if !isLayer15(l, i) {
				amiss(t, f, l, which...)
			}
		}
	})
}

// TestR1TwoOfLayer15 holds that of several things that layer 15 tells it is its own first one.
func TestR1TwoOfLayer15(t *testing.T) {
	each(t, func(t *testing.T, f api.Form) {
		l := layer15(f)
		for i := range l {
			for k := range l {
				d := lay(t, ordinary(f))
				l[k].do(d)
				l[i].do(d)
				agree(t, d.b)
			}
		}
		d := lay(t, ordinary(f))
		d.prog(0, "align", 3)
		d.prog(1, "memsz", 9)
		d.sect(5, "link", math.MaxUint32)
		d.head("str", 9)
		refuses(t, d.b, 0, api.ErrAlign)
		d.prog(0, "align", 2)
		refuses(t, d.b, 0, api.ErrRange)
		d.prog(1, "memsz", 10)
		refuses(t, d.b, 0, api.ErrLink)
	})
}
