package model_test

import (
	"bytes"
	"math"
	"math/big"
	"testing"

	"bezant/api"
	"bezant/model"
)

// bytesAt tells what Bytes should answer.
func bytesAt(m api.Model, p api.Place) []byte {
	if p.In == -1 {
		return p.Own
	}
	for i, s := range m.Segs {
		if i == p.In && sum(p.Off, p.Size).Cmp(big.NewInt(int64(len(s.At.Own)))) <= 0 {
			var b []byte
			for k := range p.Size {
				b = append(b, s.At.Own[p.Off+k])
			}
			return b
		}
	}
	return nil
}

// checkBytes holds what Bytes answers against what is told here, and against the reference.
func checkBytes(t *testing.T, m api.Model, p api.Place, want ...byte) {
	t.Helper()
	if x := bytesAt(m, p); !bytes.Equal(x, want) {
		t.Errorf("the reference tells % x, not % x, at %+v", x, want, p)
	}
	if b := model.Bytes(m, p); !bytes.Equal(b, want) {
		t.Errorf("Bytes tells % x, not % x, at %+v", b, want, p)
	}
}

func TestP14_1BytesByHand(t *testing.T) {
	each(t, func(t *testing.T, f api.Form) {
		m := of(f, api.Seg{Type: api.Load, Memsz: 4, At: own(10, 11, 12, 13)}, api.Seg{Type: otherSeg, At: in(0, 1, 2)}, api.Seg{Type: otherSeg, At: own(20)})
		checkBytes(t, m, own(7, 8), 7, 8)
		checkBytes(t, m, own())
		checkBytes(t, m, m.Segs[0].At, 10, 11, 12, 13)
		checkBytes(t, m, m.Segs[1].At, 11, 12)
		checkBytes(t, m, m.Segs[2].At, 20)
		checkBytes(t, m, in(0, 0, 4), 10, 11, 12, 13)
		checkBytes(t, m, in(0, 3, 1), 13)
		checkBytes(t, m, in(0, 3, 2))
		checkBytes(t, m, in(0, 4, 0))
		checkBytes(t, m, in(0, 5, 0))
		checkBytes(t, m, in(0, 0, 5))
		checkBytes(t, m, in(2, 0, 1), 20)
		checkBytes(t, m, in(1, 0, 1))
		checkBytes(t, m, in(3, 0, 1))
		checkBytes(t, m, in(-2, 0, 1))
	})
}

// TestP14_1BytesOwn holds that of a place that is its own Off and Size have no say.
func TestP14_1BytesOwn(t *testing.T) {
	each(t, func(t *testing.T, f api.Form) {
		for _, m := range []api.Model{of(f), ordinary(f)} {
			for _, n := range []int{0, 1, 2, 300} {
				for _, off := range greats(n) {
					for _, size := range greats(n) {
						checkBytes(t, m, api.Place{In: -1, Off: off, Size: size, Own: room(n)}, room(n)...)
					}
				}
			}
		}
	})
}

func TestP14_1BytesInASegment(t *testing.T) {
	each(t, func(t *testing.T, f api.Form) {
		m := ordinary(f)
		for i, n := range map[int]int{first: 16, second: 8, stack: 0, note: 0, dynamic: 0} {
			for off := range uint64(20) {
				for size := range uint64(20) {
					var want []byte
					if off+size <= uint64(n) {
						want = room(16)[off : off+size]
					}
					checkBytes(t, m, in(i, off, size), want...)
				}
			}
		}
	})
}

// TestP14_1BytesBeyondAllNumbers holds that Off and Size don't wrap round.
func TestP14_1BytesBeyondAllNumbers(t *testing.T) {
	each(t, func(t *testing.T, f api.Form) {
		m := ordinary(f)
		for _, off := range greats(16) {
			for _, size := range greats(16) {
				var want []byte
				if size <= 16 && off <= 16-size {
					want = room(16)[off : off+size]
				}
				checkBytes(t, m, in(first, off, size), want...)
			}
		}
	})
}

func TestP14_1BytesOfNoSegment(t *testing.T) {
	each(t, func(t *testing.T, f api.Form) {
		m := ordinary(f)
		for _, i := range ints(len(m.Segs)) {
			checkBytes(t, m, in(i, 0, 0))
			checkBytes(t, m, in(i, 0, 1))
			checkBytes(t, m, api.Place{In: i, Size: 1, Own: []byte{1}})
			checkBytes(t, m, api.Place{In: i, Off: math.MaxUint64, Size: math.MaxUint64, Own: []byte{1}})
		}
		checkBytes(t, of(f), in(0, 0, 0))
		checkBytes(t, of(f), in(0, 0, 1))
	})
}

// TestP14_1BytesNotCapacity holds that room behind lists and bytes isn't looked at.
func TestP14_1BytesNotCapacity(t *testing.T) {
	each(t, func(t *testing.T, f api.Form) {
		l := []api.Seg{{Type: api.Load, At: own(room(9)[:4]...)}, {Type: api.Load, At: own(1, 2)}}
		l[0].At.Own = room(9)[:4]
		m := of(f, l[:1]...)
		checkBytes(t, m, in(0, 0, 4), room(4)...)
		checkBytes(t, m, in(0, 0, 5))
		checkBytes(t, m, in(0, 5, 0))
		checkBytes(t, m, in(1, 0, 1))
		checkBytes(t, m, api.Place{In: -1, Size: 9, Own: room(9)[:3]}, room(3)...)
	})
}

// TestP14_1BytesOfOneElsewhere holds that bytes are those of a segment's Own, whatever its Type, its In, its Size and its Memsz are.
func TestP14_1BytesOfOneElsewhere(t *testing.T) {
	each(t, func(t *testing.T, f api.Form) {
		for _, kind := range []uint32{api.Load, api.Dynamic, 0, otherSeg, math.MaxUint32} {
			for _, i := range []int{-2, -1, 0, 1, 2, math.MinInt, math.MaxInt} {
				for _, v := range []uint64{0, 1, 4, math.MaxUint64} {
					m := of(f, api.Seg{Type: api.Load, At: own(50, 51, 52, 53, 54)}, api.Seg{Type: kind, Memsz: v, At: api.Place{In: i, Off: v, Size: v, Own: []byte{60, 61, 62}}})
					checkBytes(t, m, in(1, 1, 2), 61, 62)
					checkBytes(t, m, in(1, 0, 3), 60, 61, 62)
					checkBytes(t, m, in(1, 0, 4))
				}
			}
		}
	})
}

// TestP14_1BytesOwnElsewhere holds that Own of a place in a segment isn't told.
func TestP14_1BytesOwnElsewhere(t *testing.T) {
	each(t, func(t *testing.T, f api.Form) {
		m := ordinary(f)
		for n := range 20 {
			checkBytes(t, m, api.Place{In: first, Off: 2, Size: 3, Own: make([]byte, n)}, room(16)[2:5]...)
			checkBytes(t, m, api.Place{In: second, Off: 2, Size: 7, Own: make([]byte, n)})
		}
	})
}

// TestP14_1BytesOfASection holds a place that is a section's.
func TestP14_1BytesOfASection(t *testing.T) {
	each(t, func(t *testing.T, f api.Form) {
		m := ordinary(f)
		checkBytes(t, m, m.Secs[text].At, room(16)...)
		checkBytes(t, m, m.Secs[names].At, []byte("\x00.text\x00.shstrtab\x00.bss\x00.symtab\x00")...)
		checkBytes(t, m, m.Secs[zeros].At)
		checkBytes(t, m, m.Secs[symbols].At, room(24)...)
	})
}

func TestP14_1BytesVeryMany(t *testing.T) {
	each(t, func(t *testing.T, f api.Form) {
		b := room(1 << 20)
		m := of(f, api.Seg{Type: api.Load, At: own(b...)})
		for _, p := range []api.Place{own(b...), in(0, 0, 1<<20), in(0, 1, 1<<20-1), in(0, 1<<20-1, 1), in(0, 65535, 65537)} {
			if x := model.Bytes(m, p); !bytes.Equal(x, b[p.Off:p.Off+p.Size]) {
				t.Error(p.In, p.Off, p.Size, len(x))
			}
		}
		if x := model.Bytes(m, in(0, 1, 1<<20)); len(x) != 0 {
			t.Error(len(x))
		}
	})
}

// TestP14_1SmallBytes holds each small place in two segments of each kind against the reference.
func TestP14_1SmallBytes(t *testing.T) {
	each(t, func(t *testing.T, f api.Form) {
		l := smallPlaces()
		for _, a := range l {
			for _, p := range l {
				m := of(f, api.Seg{Type: api.Load, At: a}, api.Seg{Type: otherSeg, At: own(5, 6, 7)})
				if b, want := model.Bytes(m, p), bytesAt(m, p); !bytes.Equal(b, want) {
					t.Errorf("% x, not % x, at %+v in %+v", b, want, p, m)
				}
			}
		}
	})
}

// wholePlaces tells places at which there are bytes, of an ordinary model.
func wholePlaces() []api.Place {
	return []api.Place{own(room(5)...), in(first, 0, 16), in(first, 3, 4), in(first, 15, 1), in(second, 0, 8), in(second, 7, 1)}
}

// spoil fills bytes, and the room behind them.
func spoil(b []byte) {
	b = b[:cap(b)]
	for i := range b {
		b[i] = hold
	}
}

func TestP14_2BytesTellsNewMemory(t *testing.T) {
	each(t, func(t *testing.T, f api.Form) {
		for _, p := range wholePlaces() {
			m, was := ordinary(f), clonePlace(p)
			spoil(model.Bytes(m, p))
			if !model.Same(m, ordinary(f)) || !bytes.Equal(p.Own, was.Own) {
				t.Error("what was handed in is spoilt", p)
			}
			a, b := model.Bytes(m, p), model.Bytes(m, p)
			spoil(a)
			if !bytes.Equal(b, bytesAt(m, p)) {
				t.Error("two answers share memory", p)
			}
		}
	})
}

// TestP14_2BytesKeepsNothing holds that what was told stays, whatever becomes of what was handed in.
func TestP14_2BytesKeepsNothing(t *testing.T) {
	each(t, func(t *testing.T, f api.Form) {
		for _, p := range wholePlaces() {
			m := ordinary(f)
			b := model.Bytes(m, p)
			want := bytes.Clone(bytesAt(m, p))
			spoil(p.Own)
			for i := range m.Segs {
				spoil(m.Segs[i].At.Own)
			}
			if !bytes.Equal(b, want) {
				t.Error("what was told is changed", p)
			}
		}
	})
}

// TestP14_2BytesOfASectionIsNew holds the place that is Own of a model's own section.
func TestP14_2BytesOfASectionIsNew(t *testing.T) {
	each(t, func(t *testing.T, f api.Form) {
		m := ordinary(f)
		spoil(model.Bytes(m, m.Secs[names].At))
		spoil(model.Bytes(m, m.Secs[symbols].At))
		spoil(model.Bytes(m, m.Segs[first].At))
		spoil(model.Bytes(m, m.Segs[note].At))
		if !model.Same(m, ordinary(f)) {
			t.Error("the model is spoilt")
		}
	})
}

// TestR3NoBytes holds that there is nothing where there are none such.
func TestR3NoBytes(t *testing.T) {
	each(t, func(t *testing.T, f api.Form) {
		m := ordinary(f)
		for _, p := range []api.Place{in(-2, 0, 1), in(5, 0, 1), in(first, 16, 1), in(first, 0, 17), in(first, math.MaxUint64, 1), in(note, 0, 1), own(), {In: -1, Size: 3}} {
			p.Own = p.Own[:0:0]
			if b := model.Bytes(m, p); len(b) != 0 {
				t.Errorf("% x at %+v", b, p)
			}
		}
	})
}
