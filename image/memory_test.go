package image_test

import (
	"bytes"
	"slices"
	"sync"
	"testing"

	"bezant/api"
	"bezant/image"
)

// clone tells an image that shares no memory.
func clone(x api.Image) api.Image {
	x.Regions = slices.Clone(x.Regions)
	for i := range x.Regions {
		x.Regions[i].Bytes = bytes.Clone(x.Regions[i].Bytes)
	}
	return x
}

// spoil fills bytes, and the room behind them.
func spoil(b []byte) {
	b = b[:cap(b)]
	for i := range b {
		b[i] ^= 0x55
	}
}

// spoilAll fills all of an image, and the room behind its list.
func spoilAll(x api.Image) {
	for _, r := range x.Regions {
		spoil(r.Bytes)
	}
	l := x.Regions[:cap(x.Regions)]
	for i := range l {
		l[i] = region(99, 98, 97)
	}
}

// over tells a file whose program headers all have the same bytes: no two regions may share memory.
func over(f api.Form) (*draft, api.Image) {
	l := layoutOf(f)
	d := blank(f, 5, l.header+5*l.prog+30)
	tail := uint64(l.header + 5*l.prog)
	copy(d.b[tail:], fill(30, 9))
	var want api.Image
	for i := range 5 {
		d.load(i, tail, 30, uint64(50*i), 40, uint32(i))
		want.Regions = append(want.Regions, region(uint64(50*i), 40, uint32(i), fill(30, 9)...))
	}
	return d, want
}

// overlaid tells a model whose segments all have the same memory.
func overlaid() api.Model {
	b := fill(30, 9)
	var m api.Model
	for i := range 5 {
		m.Segs = append(m.Segs, load(uint64(50*i), 40, uint32(i), own(b...)))
	}
	return m
}

// TestP17_2FileNewMemory holds that no two answers share memory, nor do they with the file.
func TestP17_2FileNewMemory(t *testing.T) {
	each(t, func(t *testing.T, f api.Form) {
		for _, file := range []func(f api.Form) (*draft, api.Image){ordinary, over} {
			d, want := file(f)
			was := bytes.Clone(d.b)
			a, err := image.File(d.b)
			b, wrong := image.File(d.b)
			if err != nil || wrong != nil {
				t.Fatal(err, wrong)
			}
			spoilAll(a)
			if !same(b, want) {
				t.Error("two answers share memory")
			}
			if !bytes.Equal(d.b, was) {
				t.Error("what was handed in is spoilt")
			}
			tells(t, d.b, want)
			spoil(d.b)
			if !same(b, want) {
				t.Error("what was told follows the file")
			}
		}
	})
}

// TestP17_2ModelNewMemory holds that no two answers share memory, nor do they with the model.
func TestP17_2ModelNewMemory(t *testing.T) {
	for _, f := range forms() {
		for _, m := range []api.Model{full(f), overlaid()} {
			want := clone(image.Model(m))
			a, b := image.Model(m), image.Model(m)
			spoilAll(a)
			if !same(b, want) {
				t.Error("two answers share memory")
			}
			loads(t, m, want)
			for i := range m.Segs {
				spoil(m.Segs[i].At.Own)
				m.Segs[i].Vaddr, m.Segs[i].Type = 7, 8
			}
			if !same(b, want) {
				t.Error("what was told follows the model")
			}
		}
	}
}

// TestP17_2RegionsAreApart holds that no two regions of one image share memory, nor the room behind their bytes.
func TestP17_2RegionsAreApart(t *testing.T) {
	each(t, func(t *testing.T, f api.Form) {
		d, want := over(f)
		for i := range want.Regions {
			x, err := image.File(d.b)
			if err != nil {
				t.Fatal(err)
			}
			for _, x := range []api.Image{x, image.Model(overlaid())} {
				spoil(x.Regions[i].Bytes)
				x.Regions[i].Bytes = fill(30, 9)
				if !same(x, want) {
					t.Error("another region has memory of", i)
				}
			}
		}
	})
}

// TestP17_2NothingIsChanged holds that a file, a model and an image are as they were, also where an error is told.
func TestP17_2NothingIsChanged(t *testing.T) {
	each(t, func(t *testing.T, f api.Form) {
		d, x := ordinary(f)
		for n := range len(d.b) + 1 {
			was := bytes.Clone(d.b)
			image.File(d.b[:n])
			if !bytes.Equal(d.b, was) {
				t.Fatal("the file is changed", n)
			}
		}
		was := clone(x)
		for _, addr := range addresses(x) {
			image.At(x, addr)
		}
		if !same(x, was) {
			t.Error("the image is changed")
		}
		m := full(f)
		image.Model(m)
		want := full(f)
		for i, s := range m.Segs {
			w := want.Segs[i]
			if !bytes.Equal(s.At.Own, w.At.Own) || s.At.In != w.At.In || s.At.Size != w.At.Size || s.Type != w.Type || s.Vaddr != w.Vaddr || s.Memsz != w.Memsz {
				t.Error("the model is changed", i)
			}
		}
	})
}

// TestP17_2RoomBehind holds that what is behind a list's or bytes' end, in one memory with it, is neither changed nor looked at.
func TestP17_2RoomBehind(t *testing.T) {
	each(t, func(t *testing.T, f api.Form) {
		d, want := ordinary(f)
		room := append(bytes.Clone(d.b), bytes.Repeat([]byte{0xaa}, 70000)...)
		was := bytes.Clone(room)
		tells(t, room[:len(d.b)], want)
		for n := range len(d.b) {
			refuses(t, room[:n])
		}
		if !bytes.Equal(room, was) {
			t.Error("room behind a file is changed")
		}
		segs := make([]api.Seg, 9, 20)
		own := room[:3]
		segs[0] = load(5, 6, 7, api.Place{In: -1, Size: 3, Own: own})
		segs[1] = load(8, 9, 1, api.Place{In: -1})
		loads(t, api.Model{Segs: segs[:1]}, of(0, region(5, 6, 7, room[0], room[1], room[2])))
		if !bytes.Equal(room, was) || segs[1].Vaddr != 8 || segs[:10][9].Type != 0 {
			t.Error("room behind a model's lists is changed")
		}
		x := of(0, api.Region{Addr: 5, Size: 6, Flags: 7, Bytes: own}, region(8, 20, 9))
		at(t, x, 8, 0, 7)
		x.Regions = x.Regions[:1]
		at(t, x, 8, 0, 7)
		none(t, x, 11)
	})
}

// TestR2NothingIsKept holds that an answer hangs on what was handed in alone, whatever was ahead, and stays as it was told.
func TestR2NothingIsKept(t *testing.T) {
	var told, want []api.Image
	for range 2 {
		for _, f := range forms() {
			for _, file := range []func(f api.Form) (*draft, api.Image){ordinary, over} {
				d, x := file(f)
				y, err := image.File(d.b)
				if err != nil {
					t.Fatal(err)
				}
				told, want = append(told, y), append(want, x)
				refuses(t, d.b[:len(d.b)-1])
			}
			told, want = append(told, image.Model(full(f))), append(want, clone(image.Model(full(f))))
			told, want = append(told, image.Model(overlaid())), append(want, clone(image.Model(overlaid())))
		}
	}
	for i, x := range told {
		if !same(x, want[i]) {
			t.Error("what was told has changed", i)
		}
	}
}

// TestR2AtOnce holds that calls that run at the same time have nothing to do with one another.
func TestR2AtOnce(t *testing.T) {
	var wait sync.WaitGroup
	for _, f := range forms() {
		d, want := ordinary(f)
		m := full(f)
		loaded := clone(image.Model(m))
		wait.Go(func() {
			for range 50 {
				tells(t, d.b, want)
				loads(t, m, loaded)
				at(t, want, want.Regions[0].Addr, want.Regions[0].Bytes[0], want.Regions[0].Flags)
			}
		})
	}
	wait.Wait()
}
