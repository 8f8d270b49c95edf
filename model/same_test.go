package model_test

import (
	"fmt"
	"math"
	"math/rand"
	"reflect"
	"slices"
	"testing"

	"bezant/api"
	"bezant/model"
)

// checkSame holds Same both ways.
func checkSame(t *testing.T, a, b api.Model, want bool, what string) {
	t.Helper()
	if model.Same(a, b) != want || model.Same(b, a) != want {
		t.Errorf("%s: not told that same is %v", what, want)
	}
}

// eachChange does each change of one thing in a value, calls tell with its name, and takes the change back.
func eachChange(v reflect.Value, name string, tell func(what string)) {
	switch v.Kind() {
	case reflect.Struct:
		for i := range v.NumField() {
			eachChange(v.Field(i), name+"."+v.Type().Field(i).Name, tell)
		}
	case reflect.Bool:
		v.SetBool(!v.Bool())
		tell(name)
		v.SetBool(!v.Bool())
	case reflect.Int:
		was := v.Int()
		for n := range v.Type().Bits() {
			v.SetInt(was ^ 1<<n)
			tell(fmt.Sprint(name, " at bit ", n))
		}
		v.SetInt(was)
	case reflect.Uint8, reflect.Uint16, reflect.Uint32, reflect.Uint64:
		was := v.Uint()
		for n := range v.Type().Bits() {
			v.SetUint(was ^ 1<<n)
			tell(fmt.Sprint(name, " at bit ", n))
		}
		v.SetUint(was)
	case reflect.Slice:
		eachChangeOfList(v, name, tell)
	default:
		panic("no such kind: " + name)
	}
}

// eachChangeOfList does changes of a list's elements and its length, and holds that each list has a field of its own.
func eachChangeOfList(v reflect.Value, name string, tell func(what string)) {
	for i := range v.Len() {
		eachChange(v.Index(i), fmt.Sprint(name, "[", i, "]"), tell)
	}
	was := reflect.ValueOf(v.Interface())
	for n := range was.Len() {
		v.Set(was.Slice(0, n))
		tell(fmt.Sprint(name, " cut off at ", n))
		v.Set(was.Slice(n+1, was.Len()))
		tell(fmt.Sprint(name, " from on ", n+1))
	}
	v.Set(reflect.Append(was.Slice3(0, was.Len(), was.Len()), reflect.Zero(v.Type().Elem())))
	tell(name + " with a zero value more")
	v.Set(was)
}

func TestP14_1SameEachField(t *testing.T) {
	each(t, func(t *testing.T, f api.Form) {
		m, count := ordinary(f), 0
		checkSame(t, m, ordinary(f), true, "unchanged")
		eachChange(reflect.ValueOf(&m).Elem(), "model", func(what string) {
			checkSame(t, m, ordinary(f), false, what)
			checkSame(t, m, clone(m), true, what)
			count++
		})
		checkSame(t, m, ordinary(f), true, "changed back")
		if count < 2000 {
			t.Error("only so many changes: ", count)
		}
	})
}

// TestP14_1SameByHand holds the fields one by one, each with its own numbers.
func TestP14_1SameByHand(t *testing.T) {
	each(t, func(t *testing.T, f api.Form) {
		for i, change := range []func(m *api.Model){
			func(m *api.Model) { m.Ident.Form.Wide = !m.Ident.Form.Wide }, func(m *api.Model) { m.Ident.Form.Big = !m.Ident.Form.Big },
			func(m *api.Model) { m.Ident.OSABI++ }, func(m *api.Model) { m.Ident.ABI++ }, func(m *api.Model) { m.Type++ },
			func(m *api.Model) { m.Machine++ }, func(m *api.Model) { m.Flags++ }, func(m *api.Model) { m.Entry++ }, func(m *api.Model) { m.Str++ },
			func(m *api.Model) { m.Segs[0].Type++ }, func(m *api.Model) { m.Segs[1].Flags++ }, func(m *api.Model) { m.Segs[2].Vaddr++ },
			func(m *api.Model) { m.Segs[3].Paddr++ }, func(m *api.Model) { m.Segs[4].Memsz++ }, func(m *api.Model) { m.Segs[0].Align++ },
			func(m *api.Model) { m.Segs[0].At.In++ }, func(m *api.Model) { m.Segs[0].At.Off++ }, func(m *api.Model) { m.Segs[0].At.Size++ },
			func(m *api.Model) { m.Segs[0].At.Own = []byte{0} }, func(m *api.Model) { m.Segs[1].At.Own[15]++ },
			func(m *api.Model) { m.Secs[0].Name++ }, func(m *api.Model) { m.Secs[1].Type++ }, func(m *api.Model) { m.Secs[2].Flags++ },
			func(m *api.Model) { m.Secs[3].Addr++ }, func(m *api.Model) { m.Secs[4].Size++ }, func(m *api.Model) { m.Secs[0].Link++ },
			func(m *api.Model) { m.Secs[1].Info++ }, func(m *api.Model) { m.Secs[2].Align++ }, func(m *api.Model) { m.Secs[3].Entsize++ },
			func(m *api.Model) { m.Secs[0].At.In++ }, func(m *api.Model) { m.Secs[0].At.Off++ }, func(m *api.Model) { m.Secs[0].At.Size++ },
			func(m *api.Model) { m.Secs[0].At.Own = []byte{0} }, func(m *api.Model) { m.Secs[4].At.Own[23]++ },
		} {
			m := ordinary(f)
			change(&m)
			checkSame(t, m, ordinary(f), false, fmt.Sprint("change ", i))
		}
	})
}

// TestP14_1SameOfExchangedFields holds that no field is taken for another one.
func TestP14_1SameOfExchangedFields(t *testing.T) {
	var seg api.Seg
	var sec api.Sec
	for _, v := range []reflect.Value{reflect.ValueOf(&seg).Elem(), reflect.ValueOf(&sec).Elem()} {
		for i := range v.NumField() {
			for k := range i {
				a, b := v.Field(i), v.Field(k)
				if !a.CanUint() || !b.CanUint() {
					continue
				}
				a.SetUint(1)
				x := api.Model{Segs: []api.Seg{seg}, Secs: []api.Sec{sec}}
				a.SetUint(0)
				b.SetUint(1)
				y := api.Model{Segs: []api.Seg{seg}, Secs: []api.Sec{sec}}
				b.SetUint(0)
				checkSame(t, x, y, false, fmt.Sprint(v.Type(), " ", i, " and ", k))
			}
		}
	}
}

func TestP14_1SameNilAndEmpty(t *testing.T) {
	each(t, func(t *testing.T, f api.Form) {
		a, b := of(f), of(f)
		a.Segs, a.Secs = []api.Seg{}, make([]api.Sec, 0, 5)
		checkSame(t, a, b, true, "no segments and no sections")
		a, b = ordinary(f), ordinary(f)
		a.Segs[stack].At.Own, b.Segs[stack].At.Own = nil, []byte{}
		a.Segs[note].At.Own, b.Segs[note].At.Own = room(9)[:0], nil
		a.Secs[zeros].At.Own, b.Secs[zeros].At.Own = []byte{}, nil
		a.Secs[text].At.Own, b.Secs[text].At.Own = nil, []byte{}
		checkSame(t, a, b, true, "no bytes")
		b.Segs[note].At.Own = []byte{0}
		checkSame(t, a, b, false, "a byte, and room for it")
	})
}

func TestP14_1SameOtherLengths(t *testing.T) {
	each(t, func(t *testing.T, f api.Form) {
		for n := range 20 {
			for k := range 20 {
				a, b := of(f, make([]api.Seg, n)...), of(f, make([]api.Seg, k)...)
				checkSame(t, a, b, n == k, fmt.Sprint("segments ", n, " ", k))
				a, b = of(f), of(f)
				a.Secs, b.Secs = make([]api.Sec, n), make([]api.Sec, k)
				checkSame(t, a, b, n == k, fmt.Sprint("sections ", n, " ", k))
				a, b = ordinary(f), ordinary(f)
				a.Secs[symbols].At.Own, b.Secs[symbols].At.Own = room(20)[:n], room(20)[:k]
				checkSame(t, a, b, n == k, fmt.Sprint("bytes ", n, " ", k))
			}
		}
	})
}

// TestP14_1SameInOrder holds that segments and sections in another order aren't the same.
func TestP14_1SameInOrder(t *testing.T) {
	each(t, func(t *testing.T, f api.Form) {
		for i := range 5 {
			for k := range i {
				m := ordinary(f)
				m.Segs[i], m.Segs[k] = m.Segs[k], m.Segs[i]
				checkSame(t, m, ordinary(f), false, "segments")
				m = ordinary(f)
				m.Secs[i], m.Secs[k] = m.Secs[k], m.Secs[i]
				checkSame(t, m, ordinary(f), false, "sections")
			}
		}
	})
}

// TestP14_1SameOfPlaces holds that places are held by their fields, not by the bytes that are there.
func TestP14_1SameOfPlaces(t *testing.T) {
	each(t, func(t *testing.T, f api.Form) {
		m := ordinary(f)
		m.Secs[text].At = own(room(16)...)
		checkSame(t, m, ordinary(f), false, "the same bytes as own ones")
		m = ordinary(f)
		m.Segs[first].At.Own = make([]byte, 16)
		x := clone(m)
		m.Segs[note].At.Off = 1
		checkSame(t, m, x, false, "the same bytes elsewhere")
	})
}

// TestP14_1SameOfOnesThatMayNotBe holds that Same asks for nothing.
func TestP14_1SameOfOnesThatMayNotBe(t *testing.T) {
	m := api.Model{Entry: math.MaxUint64, Str: math.MinInt}
	for range 300 {
		p := api.Place{In: math.MaxInt, Off: math.MaxUint64, Size: math.MaxUint64, Own: []byte{1}}
		m.Segs = append(m.Segs, api.Seg{Type: api.Load, Align: 3, At: p})
		m.Secs = append(m.Secs, api.Sec{Type: api.NoBits, Link: math.MaxUint32, At: p})
	}
	x := clone(m)
	checkSame(t, m, x, true, "both of one")
	x.Segs[299].At.Own[0]++
	checkSame(t, m, x, false, "the last segment")
	x = clone(m)
	x.Secs[299].At.Off--
	checkSame(t, m, x, false, "the last section")
	checkSame(t, m, api.Model{}, false, "none")
	checkSame(t, api.Model{}, api.Model{}, true, "both none")
}

// TestP14_1SameOfOne holds that of one model, the same memory too, both are the same.
func TestP14_1SameOfOne(t *testing.T) {
	each(t, func(t *testing.T, f api.Form) {
		m := ordinary(f)
		checkSame(t, m, m, true, "one model")
		x := m
		x.Segs = m.Segs[:4]
		checkSame(t, m, x, false, "fewer of one memory")
	})
}

// roomy tells an ordinary model whose lists, and whose bytes, have room behind them that is filled.
func roomy(f api.Form) api.Model {
	m := ordinary(f)
	behind := append(m.Segs, api.Seg{Type: hold, At: own(hold)}, api.Seg{Type: hold})
	m.Segs = behind[:len(m.Segs)]
	more := append(m.Secs, api.Sec{Type: hold, At: own(hold)}, api.Sec{Type: hold})
	m.Secs = more[:len(m.Secs)]
	for i := range m.Segs {
		p := &m.Segs[i].At
		p.Own = append(slices.Clone(p.Own), hold, hold)[:len(p.Own)]
	}
	for i := range m.Secs {
		p := &m.Secs[i].At
		p.Own = append(slices.Clone(p.Own), hold, hold)[:len(p.Own)]
	}
	return m
}

// whole tells a model with the two elements behind each list, and two bytes behind all.
func whole(m api.Model) api.Model {
	m.Segs, m.Secs = slices.Clone(m.Segs[:len(m.Segs)+2]), slices.Clone(m.Secs[:len(m.Secs)+2])
	for i := range len(m.Segs) - 2 {
		p := &m.Segs[i].At
		p.Own = slices.Clone(p.Own[:len(p.Own)+2])
	}
	for i := range len(m.Secs) - 2 {
		p := &m.Secs[i].At
		p.Own = slices.Clone(p.Own[:len(p.Own)+2])
	}
	return m
}

// breaks tells changes after which a model may not be, one for each error, and one that changes nothing.
func breaks() []func(m *api.Model) {
	return []func(m *api.Model){
		func(m *api.Model) {}, func(m *api.Model) { m.Segs[note].Align = 3 }, func(m *api.Model) { m.Segs[note].At.In = 9 },
		func(m *api.Model) { m.Segs[first].Memsz = 1 }, func(m *api.Model) { m.Segs[first].Vaddr = top(m.Ident.Form) },
		func(m *api.Model) { m.Segs[second].Vaddr = 0 }, func(m *api.Model) { m.Secs[names].Link = 99 },
		func(m *api.Model) { m.Secs[names].Name = 99 }, func(m *api.Model) { m.Str = 0 }, func(m *api.Model) { m.Str = 99 },
	}
}

// TestP14_2ChangesNothing holds that no call changes what it is handed, not even behind the end of lists.
func TestP14_2ChangesNothing(t *testing.T) {
	each(t, func(t *testing.T, f api.Form) {
		for i, change := range breaks() {
			m, x := roomy(f), roomy(f)
			change(&m)
			change(&x)
			wantM := whole(m)
			model.Check(m)
			model.Same(m, x)
			model.Same(x, ordinary(f))
			for _, p := range wholePlaces() {
				p.Own = append(p.Own, hold)[:len(p.Own)]
				was := slices.Clone(p.Own[:len(p.Own)+1])
				model.Bytes(m, p)
				if !slices.Equal(p.Own[:len(p.Own)+1], was) {
					t.Error("the place is changed", i)
				}
			}
			if !reflect.DeepEqual(whole(m), wantM) || !reflect.DeepEqual(whole(x), wantM) {
				t.Error("a model is changed", i)
			}
		}
	})
}

// TestP14_2KeepsNothing holds that what was handed in before has no say.
func TestP14_2KeepsNothing(t *testing.T) {
	each(t, func(t *testing.T, f api.Form) {
		for _, before := range breaks() {
			for _, change := range breaks() {
				m := ordinary(f)
				before(&m)
				model.Check(m)
				model.Same(m, m)
				x := ordinary(f)
				change(&x)
				agree(t, x)
				m = ordinary(f)
				change(&m)
				checkSame(t, m, x, true, "changed alike")
			}
		}
	})
}

// TestP14_2SameMemory holds that Check looks at what a model is now.
func TestP14_2SameMemory(t *testing.T) {
	each(t, func(t *testing.T, f api.Form) {
		m, was := ordinary(f), ordinary(f)
		check(t, m, nil)
		m.Secs[names].At.Own[len(m.Secs[names].At.Own)-1] = 'x'
		check(t, m, api.ErrName)
		checkSame(t, m, was, false, "changed since")
		m.Secs[names].At.Own[len(m.Secs[names].At.Own)-1] = 0
		check(t, m, nil)
		checkSame(t, m, was, true, "changed back")
	})
}

// TestR3NoError holds that nil is told of a model that may be, not an error without a number.
func TestR3NoError(t *testing.T) {
	each(t, func(t *testing.T, f api.Form) {
		if err := model.Check(ordinary(f)); err != nil {
			t.Error(err)
		}
	})
}

// TestErrorsAsTold holds that each error is the Code itself.
func TestErrorsAsTold(t *testing.T) {
	each(t, func(t *testing.T, f api.Form) {
		l := faults(f)
		for i := range l {
			if code, ok := model.Check(done(f, l, i)).(api.Code); !ok || code != l[i].code {
				t.Error(i, code, ok)
			}
		}
	})
}

// source tells numbers out of bytes, 0 behind them.
type source struct{ b []byte }

func (s *source) next() byte {
	if len(s.b) == 0 {
		return 0
	}
	v := s.b[0]
	s.b = s.b[1:]
	return v
}

// number tells one of numbers at ends, or a small one.
func (s *source) number() uint64 {
	v := s.next()
	switch v >> 5 {
	case 0:
		return 1<<32 - uint64(v&31)
	case 1:
		return -uint64(v & 31)
	case 2:
		return 1 << (2 * (v & 31))
	}
	return uint64(v & 31)
}

func (s *source) place() api.Place {
	p := api.Place{In: int(int8(s.next()) % 6), Own: room(int(s.next() % 8))}
	if v := s.next(); v < 128 {
		p.Size = uint64(v % 8)
	} else if v < 250 {
		p.Size = uint64(len(p.Own))
	} else {
		p.Size = s.number()
	}
	if v := s.next(); v > 128 {
		p.Off = s.number()
	}
	if v := s.next(); v > 128 && p.In != -1 {
		p.Own = nil
	}
	return p
}

func (s *source) model() api.Model {
	m := api.Model{Ident: api.Ident{Form: forms()[s.next()&3]}, Entry: s.number(), Str: int(int8(s.next()) % 8)}
	for range s.next() % 18 {
		m.Segs = append(m.Segs, api.Seg{Type: uint32(s.next() & 1), Vaddr: s.number(), Memsz: s.number(), Align: s.number() & 3, At: s.place()})
	}
	for range s.next() % 66 {
		p := s.place()
		m.Secs = append(m.Secs, api.Sec{Name: uint32(s.next() & 3), Type: uint32(s.next() & 11), Size: p.Size, Link: uint32(s.next() % 8), At: p})
	}
	return m
}

// holdAll holds all three calls of one model against the references.
func holdAll(t *testing.T, m api.Model, p api.Place) {
	agree(t, m)
	if b := model.Bytes(m, p); !slices.Equal(b, bytesAt(m, p)) {
		t.Errorf("% x at %+v in %+v", b, p, m)
	}
	for _, s := range m.Secs {
		if b := model.Bytes(m, s.At); !slices.Equal(b, bytesAt(m, s.At)) {
			t.Errorf("% x at %+v in %+v", b, s.At, m)
		}
	}
	if !model.Same(m, clone(m)) {
		t.Errorf("not the same: %+v", m)
	}
}

// TestP1Noise holds all calls of models out of bytes that tell of nothing.
func TestP1Noise(t *testing.T) {
	r := rand.New(rand.NewSource(1))
	for range 20000 {
		b := make([]byte, r.Intn(200))
		r.Read(b)
		s := &source{b}
		holdAll(t, s.model(), s.place())
	}
}

// TestP1Fields holds an ordinary model with two fields changed, against the reference.
func TestP1Fields(t *testing.T) {
	m := ordinary(api.Form{})
	for _, f := range forms() {
		m = ordinary(f)
		eachChange(reflect.ValueOf(&m).Elem(), "model", func(string) { agree(t, m) })
	}
}

func FuzzP1NeverPanics(f *testing.F) {
	f.Add([]byte{})
	f.Add([]byte{0, 200, 0, 3, 1, 200, 100, 0, 255, 3, 3, 0, 0})
	f.Fuzz(func(t *testing.T, b []byte) {
		s := &source{b}
		p := s.place()
		holdAll(t, s.model(), p)
	})
}
