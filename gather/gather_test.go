package gather_test

import (
	"reflect"
	"testing"

	"calliper/api"
	"calliper/gather"
)

// of is lists of so many tables (below 0: they are set).
func of(tables ...int) []api.List {
	var l []api.List
	for _, n := range tables {
		x := api.List{First: 99, Stim: n < 0}
		x.Tables = make([][]api.Entry, max(n, -n))
		l = append(l, x)
	}
	return l
}

func dto(code uint8, b ...byte) api.Rep { return api.Rep{Kind: api.Dto, Code: code, B: b} }

func none(t *testing.T, g *gather.Gather, l ...api.Rep) {
	t.Helper()
	for _, r := range l {
		if s, ok := g.Take(r); ok || s.List != 0 || s.Lost || len(s.B) != 0 {
			t.Error(r, s, ok)
		}
	}
}

func sample(t *testing.T, g *gather.Gather, r api.Rep, list int, lost bool, b ...[]byte) {
	t.Helper()
	want := api.Sample{List: list, Lost: lost, B: b}
	if s, ok := g.Take(r); !ok || !reflect.DeepEqual(s, want) {
		t.Error(r, s, ok, "not", want)
	}
}

func TestP19_1InOrder(t *testing.T) {
	g := gather.New(of(2, 1, 3))
	none(t, g, dto(0, 1, 2))
	sample(t, g, dto(1, 3), 0, false, []byte{1, 2}, []byte{3})
	sample(t, g, dto(2, 4), 1, false, []byte{4})
	none(t, g, dto(3, 5), dto(4, 6))
	sample(t, g, dto(5, 7), 2, false, []byte{5}, []byte{6}, []byte{7})
	none(t, g, dto(1, 9), dto(4, 9), dto(5, 9), dto(6, 9), dto(63, 9))
}

func TestP19_1Lost(t *testing.T) {
	g := gather.New(of(2, 1))
	none(t, g, dto(64, 1))
	sample(t, g, dto(1, 2), 0, true, []byte{1}, []byte{2})
	sample(t, g, dto(66, 3), 1, true, []byte{3})
	sample(t, g, dto(2, 3), 1, false, []byte{3})
	none(t, g, dto(0, 1), dto(65, 2), dto(1, 2), dto(64, 1), dto(0, 7))
	sample(t, g, dto(1, 8), 0, false, []byte{7}, []byte{8})
	none(t, g, dto(65, 9), dto(1, 9), dto(67, 9))
}

func TestP19_1OutOfOrder(t *testing.T) {
	g := gather.New(of(3))
	none(t, g, dto(1, 1), dto(2, 1))
	none(t, g, dto(0, 1), dto(2, 1), dto(1, 1), dto(2, 1))
	none(t, g, dto(0, 1), dto(1, 1), dto(1, 1), dto(2, 1))
	none(t, g, dto(0, 1), dto(1, 1), dto(0, 2), dto(1, 3))
	sample(t, g, dto(2, 4), 0, false, []byte{2}, []byte{3}, []byte{4})
	none(t, g, dto(2, 4), dto(1, 4))
}

func TestP19_1WhatIsNothing(t *testing.T) {
	g := gather.New(of(2, -1, 1))
	none(t, g, dto(0, 1))
	for _, kind := range []uint8{0, api.Pos, api.Neg, api.Ev, 9} {
		none(t, g, api.Rep{Kind: kind, Code: 1, B: []byte{5}}, api.Rep{Kind: kind, B: []byte{5}})
	}
	none(t, g, dto(2, 1), dto(66, 1), dto(4, 1), dto(63), dto(191), dto(255))
	sample(t, g, dto(1, 2), 0, false, []byte{1}, []byte{2})
	sample(t, g, dto(3, 3), 2, false, []byte{3})
	none(t, gather.New(nil), dto(0), dto(64))
}

func TestP19_1ListsWithoutTables(t *testing.T) {
	g := gather.New(of(0, 1, 0, 0, 1))
	sample(t, g, dto(0, 1), 1, false, []byte{1})
	sample(t, g, dto(1, 2), 4, false, []byte{2})
	none(t, g, dto(2))
}

func TestP19_1ManyTables(t *testing.T) {
	g := gather.New(of(63, 1, 100, 1))
	sample(t, g, dto(63, 1), 1, false, []byte{1})
	sample(t, g, dto(127, 1), 1, true, []byte{1})
	none(t, g, dto(64, 1), dto(128, 2))
	sample(t, g, dto(228, 5), 3, true, []byte{5})
}

func TestP19_1EmptyTables(t *testing.T) {
	g := gather.New(of(2))
	none(t, g, dto(0))
	s, ok := g.Take(dto(1))
	if !ok || len(s.B) != 2 || len(s.B[0]) != 0 || len(s.B[1]) != 0 {
		t.Error(s, ok)
	}
}

func TestP19_1NewMemory(t *testing.T) {
	l := of(2)
	g := gather.New(l)
	l[0].Tables, l[0].Stim = nil, true
	one, two := dto(0, 1), dto(1, 2)
	g.Take(one)
	one.B[0] = 99
	s, ok := g.Take(two)
	two.B[0] = 98
	if !ok || s.B[0][0] != 1 || s.B[1][0] != 2 {
		t.Error(s, ok)
	}
	g.Take(dto(0, 5))
	again, _ := g.Take(dto(1, 6))
	again.B[0][0] = 77
	if s.B[0][0] != 1 {
		t.Error("shared", s)
	}
}

func TestP19_1NilGather(t *testing.T) {
	var g *gather.Gather
	none(t, g, dto(0, 1), dto(64, 1))
}

func TestP19_2OtherListsBetweenChangeNothing(t *testing.T) {
	g := gather.New(of(2, 2, -2))
	none(t, g, dto(0, 1), dto(66, 2), dto(4, 9), dto(5, 9), api.Rep{Kind: api.Pos})
	sample(t, g, dto(1, 3), 0, false, []byte{1}, []byte{3})
	none(t, g, dto(1, 9))
	sample(t, g, dto(3, 4), 1, true, []byte{2}, []byte{4})
}
