package stim_test

import (
	"bytes"
	"math"
	"testing"

	"calliper/api"
	"calliper/mem"
	"calliper/stim"
)

// set is a list that runs, and is set, of tables from first on.
func set(first int, tables ...[]api.Entry) api.List {
	return api.List{First: first, Tables: tables, Stim: true, On: true}
}

// to is an entry of n plain bytes.
func to(at uint32, n uint8) api.Entry { return api.Entry{Size: n, At: at} }

func dto(code uint8, b ...byte) api.Rep { return api.Rep{Kind: api.Dto, Code: code, B: b} }

func memory(t *testing.T) *mem.Mem {
	t.Helper()
	m, e := mem.New(api.Map{Ram: 8, Segs: []api.Seg{{Len: 4, Pages: 2}}, Flash: [][]byte{{1, 2, 3, 4}}})
	if e != api.OK {
		t.Fatal(e)
	}
	return m
}

func ram(t *testing.T, m *mem.Mem, want ...byte) {
	t.Helper()
	if got, _ := m.Read(api.App, 0, 0, 8); !bytes.Equal(got[:len(want)], want) {
		t.Error(got, "not", want)
	}
}

func TestP14_1Take(t *testing.T) {
	l := []api.List{set(0, []api.Entry{to(0, 1)}), set(1, []api.Entry{to(1, 2)}, []api.Entry{to(3, 1), to(4, 1)}, []api.Entry{to(5, 1)})}
	s := stim.New()
	for i, x := range []struct {
		r    api.Rep
		want bool
	}{
		{dto(1, 1, 2), true}, {dto(2, 3, 4), true}, {dto(0, 9), true}, {dto(3, 5), true},
		{dto(3, 5), false},
		{dto(2, 3, 4), false}, {dto(3, 5), false},
		{dto(1, 1, 2), true}, {dto(3, 5), false}, {dto(2, 3, 4), false},
		{dto(1, 1, 2), true}, {dto(1, 1, 2), true}, {dto(2, 3, 4, 9), true}, {dto(4, 1, 2, 3, 4, 5, 6, 7), false}, {dto(255), false}, {dto(3, 5), true},
	} {
		if got := s.Take(l, x.r); got != x.want {
			t.Error(i, got)
		}
	}
	if !s.Full(0, l[0]) || !s.Full(1, l[1]) {
		t.Error("not full")
	}
}

func TestP14_1TooFewBytesAreNothing(t *testing.T) {
	l := []api.List{set(0, []api.Entry{to(0, 1), to(1, 1)}, []api.Entry{to(2, 2)})}
	s := stim.New()
	if s.Take(l, dto(0, 1)) || s.Take(l, dto(0)) || !s.Take(l, dto(0, 1, 2)) || s.Take(l, dto(1, 9)) || s.Take(l, dto(0, 7)) {
		t.Error("too few")
	}
	if !s.Take(l, dto(1, 3, 4)) || !s.Full(0, l[0]) {
		t.Error("what came ahead is there still")
	}
	m := memory(t)
	if !s.Apply(m, 0, l[0]) {
		t.Error("not applied")
	}
	ram(t, m, 1, 2, 3, 4, 0)
}

func TestP14_1WhichList(t *testing.T) {
	one := []api.Entry{to(0, 1)}
	off, measured, none := set(0, one), set(0, one), set(0)
	off.On, measured.Stim = false, false
	for i, x := range []struct {
		l    []api.List
		code uint8
		want int
	}{
		{nil, 0, -1},
		{[]api.List{off}, 0, -1}, {[]api.List{measured}, 0, -1}, {[]api.List{none}, 0, -1},
		{[]api.List{off, set(0, one)}, 0, 1}, {[]api.List{measured, off, none, set(0, one)}, 0, 3},
		{[]api.List{set(0, one), set(0, one)}, 0, 0},
		{[]api.List{off, off, off, off, set(0, one)}, 0, -1},
		{[]api.List{set(5, one)}, 4, -1}, {[]api.List{set(5, one)}, 5, 0}, {[]api.List{set(5, one)}, 6, -1},
		{[]api.List{set(-1, one)}, 0, -1}, {[]api.List{set(-1, one)}, 255, -1},
		{[]api.List{set(math.MinInt, one)}, 0, -1}, {[]api.List{set(math.MaxInt, one)}, 0, -1}, {[]api.List{set(256, one)}, 0, -1},
	} {
		s := stim.New()
		if got := s.Take(x.l, dto(x.code, 1)); got != (x.want >= 0) {
			t.Error(i, got)
		}
		for k := range x.l {
			if s.Full(k, set(0, one)) != (k == x.want) {
				t.Error(i, k)
			}
		}
	}
}

func TestP14_1SecondTableOfNegativeFirst(t *testing.T) {
	l := []api.List{set(-1, []api.Entry{to(0, 1)}, []api.Entry{to(1, 1)})}
	if stim.New().Take(l, dto(0, 1)) {
		t.Error("the table behind none")
	}
}

func TestP14_1OtherKindsAreTakenByTheirCode(t *testing.T) {
	l := []api.List{set(0, []api.Entry{to(0, 1)})}
	if s := stim.New(); !s.Take(l, api.Rep{Code: 0, B: []byte{1}}) {
		t.Error("a table is told by its code")
	}
}

func TestP14_2Full(t *testing.T) {
	l := set(0, []api.Entry{to(0, 1)}, []api.Entry{to(1, 1)})
	s := stim.New()
	s.Take([]api.List{l}, dto(0, 1))
	if s.Full(0, l) || !s.Full(0, set(0, nil)) || s.Full(0, set(0)) || s.Full(1, set(0)) || s.Full(1, l) {
		t.Error("of one part")
	}
	s.Take([]api.List{l}, dto(1, 1))
	if !s.Full(0, l) || s.Full(0, set(0, nil)) || s.Full(0, set(0, nil, nil, nil)) {
		t.Error("of two parts")
	}
	for _, n := range []int{-1, 4, math.MaxInt, math.MinInt} {
		if s.Full(n, l) || s.Apply(memory(t), n, l) {
			t.Error(n)
		}
	}
	off := l
	off.On, off.Stim = false, false
	if !s.Full(0, off) {
		t.Error("whether it runs is nothing to Full")
	}
}

func TestP14_2Apply(t *testing.T) {
	m := memory(t)
	m.Set(api.App, 0, 1)
	l := set(0, []api.Entry{to(0, 2), {Size: 1, Area: 1, At: 3}}, []api.Entry{to(4, 1), to(4, 1)})
	s := stim.New()
	s.Take([]api.List{l}, dto(0, 5, 6, 7, 99))
	if s.Apply(m, 0, l) {
		t.Error("not full")
	}
	ram(t, m, 0, 0)
	s.Take([]api.List{l}, dto(1, 8, 9))
	if !s.Apply(m, 0, l) || s.Full(0, l) || s.Apply(m, 0, l) {
		t.Error("full, once")
	}
	ram(t, m, 5, 6, 0, 0, 9, 0)
	if b, _ := m.Read(api.App, 1, 0, 4); !bytes.Equal(b, []byte{0, 0, 0, 7}) {
		t.Error(b)
	}
	if s.Take([]api.List{l}, dto(1, 8, 9)) {
		t.Error("no parts any more")
	}
}

func TestP14_2AllOrNothing(t *testing.T) {
	for i, bad := range []api.Entry{to(8, 1), to(7, 2), {Size: 1, Area: 1}, {Size: 1, Area: 2}, {Size: 0, Area: 9}, to(1<<32-1, 1), to(9, 0)} {
		for _, l := range []api.List{set(0, []api.Entry{to(0, 1), bad}), set(0, []api.Entry{to(0, 1)}, []api.Entry{bad, to(1, 1)}), set(0, []api.Entry{bad, to(0, 1)})} {
			m := memory(t)
			s := stim.New()
			for k := range l.Tables {
				if !s.Take([]api.List{l}, dto(uint8(k), 1, 2, 3)) {
					t.Error(i, k)
				}
			}
			if s.Apply(m, 0, l) || s.Full(0, l) {
				t.Error(i, "applied")
			}
			ram(t, m, 0, 0, 0, 0, 0, 0, 0, 0)
			if b, _ := m.Read(api.App, 1, 0, 4); !bytes.Equal(b, []byte{1, 2, 3, 4}) {
				t.Error(i, b)
			}
		}
	}
}

func TestP14_2ApplyOfAListThatNeedsMore(t *testing.T) {
	m := memory(t)
	s := stim.New()
	s.Take([]api.List{set(0, []api.Entry{to(0, 1)}, []api.Entry{to(1, 1)})}, dto(0, 7))
	s.Take([]api.List{set(0, []api.Entry{to(0, 1)}, []api.Entry{to(1, 1)})}, dto(1, 8))
	wide := set(0, []api.Entry{to(0, 1)}, []api.Entry{to(1, 1), to(2, 1)})
	if s.Apply(m, 0, wide) || s.Full(0, wide) {
		t.Error("applied")
	}
	ram(t, m, 0, 0, 0)
}

func TestP14_2ApplyWithoutMemory(t *testing.T) {
	l := set(0, []api.Entry{to(0, 1)})
	s := stim.New()
	s.Take([]api.List{l}, dto(0, 7))
	if s.Apply(nil, 0, l) || s.Full(0, l) {
		t.Error("applied to nothing")
	}
}

func TestP14_2Clear(t *testing.T) {
	var l []api.List
	for i := range 4 {
		l = append(l, set(i, []api.Entry{to(0, 1)}))
	}
	s := stim.New()
	for i := range l {
		if !s.Take(l, dto(uint8(i), 1)) || !s.Full(i, l[i]) {
			t.Error(i)
		}
	}
	s.Clear()
	for i := range l {
		if s.Full(i, l[i]) {
			t.Error(i)
		}
	}
}

func TestP14_2PartsAreNotShared(t *testing.T) {
	m := memory(t)
	l := set(0, []api.Entry{to(0, 1)}, []api.Entry{to(1, 1)})
	s := stim.New()
	one, two := dto(0, 1), dto(1, 2)
	s.Take([]api.List{l}, one)
	s.Take([]api.List{l}, two)
	one.B[0], two.B[0] = 99, 98
	s.Apply(m, 0, l)
	ram(t, m, 1, 2)
}

func TestP14_2NilStim(t *testing.T) {
	var s *stim.Stim
	l := set(0, []api.Entry{to(0, 1)})
	s.Clear()
	if s.Take([]api.List{l}, dto(0, 1)) || s.Full(0, l) || s.Apply(memory(t), 0, l) {
		t.Error("a nil Stim takes")
	}
}

func TestP14_3PartsAloneAreNeverWritten(t *testing.T) {
	l := []api.List{set(0, []api.Entry{to(0, 1)}, []api.Entry{to(1, 1)}, []api.Entry{to(2, 1)})}
	r := uint32(7)
	m := memory(t)
	s := stim.New()
	came := 0
	for range 2000 {
		r ^= r << 13
		r ^= r >> 17
		r ^= r << 5
		n := int(r % 4)
		if n == 3 {
			was, _ := m.Read(api.App, 0, 0, 3)
			whole := s.Apply(m, 0, l[0])
			now, _ := m.Read(api.App, 0, 0, 3)
			if whole != (came == 3) || !whole && !bytes.Equal(was, now) {
				t.Fatal(whole, came, was, now)
			}
			if whole {
				came = 0
			}
			continue
		}
		took := s.Take(l, dto(uint8(n), byte(r>>8)))
		switch {
		case n == 0:
			came = 1
		case n == came:
			came++
		default:
			came = 0
		}
		if took != (came > 0) {
			t.Fatal(n, took, came)
		}
	}
}
