package file_test

import (
	"bytes"
	"slices"
	"sync"
	"testing"

	"bezant/api"
	"bezant/file"
	"bezant/model"
)

// clone tells a model that shares no memory.
func clone(m api.Model) api.Model {
	m.Segs, m.Secs = slices.Clone(m.Segs), slices.Clone(m.Secs)
	for i := range m.Segs {
		m.Segs[i].At.Own = bytes.Clone(m.Segs[i].At.Own)
	}
	for i := range m.Secs {
		m.Secs[i].At.Own = bytes.Clone(m.Secs[i].At.Own)
	}
	return m
}

// spoil fills bytes, and the room behind them.
func spoil(b []byte) {
	b = b[:cap(b)]
	for i := range b {
		b[i] ^= 0x55
	}
}

// owns tells all bytes that a model has, by segments and then by sections.
func owns(m api.Model) []*[]byte {
	var l []*[]byte
	for i := range m.Segs {
		l = append(l, &m.Segs[i].At.Own)
	}
	for i := range m.Secs {
		l = append(l, &m.Secs[i].At.Own)
	}
	return l
}

// spoilAll fills all of a model, and the room behind its lists.
func spoilAll(m api.Model) {
	for _, b := range owns(m) {
		spoil(*b)
	}
	segs, secs := m.Segs[:cap(m.Segs)], m.Secs[:cap(m.Secs)]
	for i := range segs {
		segs[i] = api.Seg{Type: 99, Vaddr: 98, At: api.Place{In: 97}}
	}
	for i := range secs {
		secs[i] = api.Sec{Type: 99, Addr: 98, At: api.Place{In: 97}}
	}
}

// shared tells a file whose things all have the same bytes: no two may share memory where it is read.
func shared(t *testing.T, f api.Form) *draft {
	t.Helper()
	m := of(f, load(0, 0), other(own()), load(100, 0), other(own()))
	m.Segs[0].Memsz, m.Segs[2].Memsz = 50, 50
	m = with(m, sec(own()), sec(own()), api.Sec{Type: api.StrTab, At: own()}, sec(own()))
	d := lay(t, m)
	at := uint64(len(d.b))
	d.b = append(d.b, fill(60, 3)...)
	d.b[len(d.b)-1], d.b[at] = 0, 0
	d.head("str", 3)
	d.prog(0, "filesz", 20)
	d.prog(2, "filesz", 20)
	for i := range 4 {
		d.prog(i, "off", at)
		d.sect(i+1, "off", at)
		d.sect(i+1, "size", 60)
	}
	d.prog(1, "filesz", 60)
	d.prog(3, "filesz", 60)
	return d
}

// files tells files that are read, new each time.
func files(t *testing.T, f api.Form) []*draft {
	t.Helper()
	var l []*draft
	for _, m := range models(f) {
		l = append(l, lay(t, m))
	}
	return append(l, shared(t, f))
}

// TestP16_3EncodeNewMemory holds that no two answers share memory, nor do they with the model.
func TestP16_3EncodeNewMemory(t *testing.T) {
	each(t, func(t *testing.T, f api.Form) {
		for i, m := range models(f) {
			want := lay(t, m).b
			a, err := file.Encode(m)
			b, wrong := file.Encode(m)
			if err != nil || wrong != nil {
				t.Fatal(err, wrong)
			}
			spoil(a)
			if !bytes.Equal(b, want) {
				t.Error("two answers share memory", i)
			}
			if !model.Same(m, models(f)[i]) {
				t.Error("what was handed in is spoilt", i)
			}
			writes(t, m)
			// And an answer doesn't follow the model.
			spoilAll(m)
			if !bytes.Equal(b, want) {
				t.Error("what was told follows the model", i)
			}
		}
	})
}

// TestP16_3ParseNewMemory holds that no two answers share memory, nor do they with the file.
func TestP16_3ParseNewMemory(t *testing.T) {
	each(t, func(t *testing.T, f api.Form) {
		for i, d := range files(t, f) {
			was := bytes.Clone(d.b)
			a, err := file.Parse(d.b)
			b, wrong := file.Parse(d.b)
			if err != nil || wrong != nil {
				t.Fatal(err, wrong)
			}
			want := clone(b)
			spoilAll(a)
			if !model.Same(b, want) {
				t.Error("two answers share memory", i)
			}
			if !bytes.Equal(d.b, was) {
				t.Error("what was handed in is spoilt", i)
			}
			reads(t, d.b, want)
			spoil(d.b)
			if !model.Same(b, want) {
				t.Error("what was told follows the file", i)
			}
		}
	})
}

// TestP16_3PlacesAreApart holds that no two places of one model share memory.
func TestP16_3PlacesAreApart(t *testing.T) {
	each(t, func(t *testing.T, f api.Form) {
		for _, d := range files(t, f) {
			first, err := file.Parse(d.b)
			if err != nil {
				t.Fatal(err)
			}
			for i := range owns(first) {
				m, err := file.Parse(d.b)
				if err != nil {
					t.Fatal(err)
				}
				l := owns(m)
				spoil(*l[i])
				*l[i] = bytes.Clone(*owns(first)[i])
				if !model.Same(m, first) {
					t.Error("another place has memory of", i)
				}
			}
		}
	})
}

// TestP16_3NothingIsChanged holds that a model and a file are as they were, also where an error is told.
func TestP16_3NothingIsChanged(t *testing.T) {
	each(t, func(t *testing.T, f api.Form) {
		all := models(f)
		for _, x := range wrongs(f) {
			m := ordinary(f)
			x.do(&m)
			all = append(all, m)
		}
		for i, m := range all {
			was := clone(m)
			file.Encode(m)
			file.Encode(m)
			if !model.Same(m, was) {
				t.Error("the model is changed", i)
			}
		}
		l := files(t, f)
		for _, x := range flaws(f) {
			d := lay(t, ordinary(f))
			x.do(d)
			l = append(l, d)
		}
		for i, d := range l {
			was := bytes.Clone(d.b)
			file.Parse(d.b)
			file.Parse(d.b)
			if !bytes.Equal(d.b, was) {
				t.Error("the file is changed", i)
			}
		}
	})
}

// TestP16_3RoomBehindAModel holds that the room behind lists and bytes is neither changed nor looked at.
func TestP16_3RoomBehindAModel(t *testing.T) {
	each(t, func(t *testing.T, f api.Form) {
		want := lay(t, ordinary(f)).b
		m := ordinary(f)
		room := bytes.Repeat([]byte{0xaa}, 100000)
		copy(room, m.Segs[1].At.Own)
		m.Segs[1].At.Own = room[:len(m.Segs[1].At.Own)]
		copy(room[1000:], m.Secs[4].At.Own)
		m.Secs[4].At.Own = room[1000:][:len(m.Secs[4].At.Own)]
		was := bytes.Clone(room)
		segs := append(slices.Clone(m.Segs), make([]api.Seg, 30)...)
		secs := append(slices.Clone(m.Secs), make([]api.Sec, 90)...)
		segs[6], secs[6] = api.Seg{Type: api.Load, Align: 3, At: own(9)}, sec(own(8))
		m.Segs, m.Secs = segs[:6], secs[:6]
		b, err := file.Encode(m)
		if err != nil || !bytes.Equal(b, want) {
			t.Error(firstOther(b, want), err)
		}
		if !bytes.Equal(room, was) || segs[6].Align != 3 || segs[6].At.Own[0] != 9 || secs[6].At.Own[0] != 8 || segs[7].At.Own != nil || secs[7].At.Own != nil {
			t.Error("room behind is changed")
		}
	})
}

// TestP16_3RoomBehindAFile holds that what is behind a file's last byte, in one memory with it, is neither changed nor looked at.
func TestP16_3RoomBehindAFile(t *testing.T) {
	each(t, func(t *testing.T, f api.Form) {
		d := lay(t, ordinary(f))
		room := append(bytes.Clone(d.b), bytes.Repeat([]byte{0xaa}, 70000)...)
		was := bytes.Clone(room)
		reads(t, room[:len(d.b)], ordinary(f))
		for n := range len(d.b) {
			x, err := file.Parse(room[:n])
			y, wrong := file.Parse(bytes.Clone(d.b[:n]))
			if err == nil || wrong == nil || *err.(*api.Spot) != *wrong.(*api.Spot) || !isZero(x) || !isZero(y) {
				t.Error(n, err, wrong)
			}
		}
		if !bytes.Equal(room, was) {
			t.Error("room behind is changed")
		}
	})
}

// TestR2ErrorsAreApart holds that a Spot that was told isn't told again, so that who has it may alter it.
func TestR2ErrorsAreApart(t *testing.T) {
	each(t, func(t *testing.T, f api.Form) {
		for _, x := range flaws(f) {
			d := lay(t, ordinary(f))
			x.do(d)
			_, err := file.Parse(d.b)
			spot, ok := err.(*api.Spot)
			if !ok {
				t.Fatal(err)
			}
			*spot = api.Spot{At: -1, Code: 99}
			refuses(t, d.b, x.at, x.code)
		}
	})
}

// TestR2NothingIsKept holds that an answer hangs on what was handed in alone, whatever was ahead, and stays as it was told.
func TestR2NothingIsKept(t *testing.T) {
	var written [][]byte
	var read, all []api.Model
	for range 2 {
		for _, f := range forms() {
			for _, m := range models(f) {
				b, err := file.Encode(m)
				if err != nil {
					t.Fatal(err)
				}
				x, err := file.Parse(b)
				if err != nil {
					t.Fatal(err)
				}
				written, read, all = append(written, b), append(read, x), append(all, m)
			}
			for _, x := range flaws(f) {
				d := lay(t, ordinary(f))
				x.do(d)
				refuses(t, d.b, x.at, x.code)
			}
			for _, x := range wrongs(f) {
				m := ordinary(f)
				x.do(&m)
				file.Encode(m)
			}
		}
	}
	for i, m := range all {
		writes(t, m)
		if !bytes.Equal(written[i], lay(t, m).b) || !model.Same(read[i], m) {
			t.Error("what was told has changed", i)
		}
		reads(t, written[i], m)
	}
}

// TestR2AtOnce holds that calls that run at the same time have nothing to do with one another.
func TestR2AtOnce(t *testing.T) {
	var wait sync.WaitGroup
	for _, f := range forms() {
		for i, m := range models(f) {
			want := lay(t, m).b
			wait.Go(func() {
				for range 20 {
					b, err := file.Encode(m)
					if err != nil || !bytes.Equal(b, want) {
						t.Error(i, err)
					}
					x, err := file.Parse(want)
					if err != nil || !model.Same(x, m) {
						t.Error(i, err)
					}
				}
			})
		}
	}
	wait.Wait()
}
