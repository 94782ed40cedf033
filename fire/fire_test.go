package fire_test

import (
	"math"
	"slices"
	"testing"

	"calliper/api"
	"calliper/fire"
	"calliper/mem"
)

// on is a list that runs.
func on(event, pre, priority uint8) api.List {
	return api.List{On: true, Event: event, Pre: pre, Priority: priority}
}

func at(t *testing.T, f *fire.Fire, event uint8, l []api.List, want ...int) {
	t.Helper()
	if got := f.Event(event, l); !slices.Equal(got, want) {
		t.Error(got, "not", want)
	}
}

func TestP12_1EachPreth(t *testing.T) {
	f := fire.New()
	l := []api.List{on(0, 1, 0), on(0, 2, 0), on(0, 3, 0), on(1, 2, 0)}
	at(t, f, 0, l, 0)
	at(t, f, 0, l, 0, 1)
	at(t, f, 1, l)
	at(t, f, 0, l, 0, 2)
	at(t, f, 0, l, 0, 1)
	at(t, f, 1, l, 3)
	at(t, f, 7, l)
	at(t, f, 0, l, 0)
	at(t, f, 0, l, 0, 1, 2)
}

func TestP12_1MostPre(t *testing.T) {
	f := fire.New()
	l := []api.List{on(255, 255, 0), on(255, 0, 0)}
	for range 254 {
		at(t, f, 255, l, 1)
	}
	at(t, f, 255, l, 0, 1)
	at(t, f, 255, l, 1)
}

func TestP12_1PreThatBecameLess(t *testing.T) {
	f := fire.New()
	for range 3 {
		at(t, f, 0, []api.List{on(0, 9, 0)})
	}
	at(t, f, 0, []api.List{on(0, 2, 0)}, 0)
	at(t, f, 0, []api.List{on(0, 2, 0)})
	at(t, f, 0, []api.List{on(0, 2, 0)}, 0)
}

func TestP12_1WhatDoesNotRunCountsAnew(t *testing.T) {
	f := fire.New()
	runs, rests := on(0, 2, 0), on(0, 2, 0)
	rests.On = false
	at(t, f, 0, []api.List{runs, runs})
	at(t, f, 0, []api.List{rests, runs}, 1)
	at(t, f, 0, []api.List{runs, runs})
	at(t, f, 1, []api.List{runs, rests})
	at(t, f, 0, []api.List{runs, runs}, 0)
	at(t, f, 0, []api.List{runs, runs}, 1)
	at(t, f, 1, []api.List{runs})
	at(t, f, 0, []api.List{runs, runs}, 0)
	at(t, f, 3, nil)
	at(t, f, 0, []api.List{runs, runs})
}

func TestP12_1OtherPlaces(t *testing.T) {
	f := fire.New()
	var l []api.List
	for range 9 {
		l = append(l, on(0, 1, 0))
	}
	at(t, f, 0, l, 0, 1, 2, 3)
	for _, n := range []int{4, -1, math.MaxInt, math.MinInt} {
		f.Start(n)
	}
	at(t, f, 0, l, 0, 1, 2, 3)
}

func TestP12_1Order(t *testing.T) {
	f := fire.New()
	at(t, f, 0, []api.List{on(0, 1, 3), on(0, 1, 200), on(0, 1, 3), on(0, 1, 4)}, 1, 3, 0, 2)
	at(t, f, 0, []api.List{on(0, 1, 0), on(0, 1, 0), on(0, 1, 0), on(0, 1, 255)}, 3, 0, 1, 2)
	at(t, f, 0, []api.List{on(0, 1, 1), on(1, 1, 2), on(0, 1, 3), on(0, 1, 2)}, 2, 3, 0)
}

func TestP12_1Start(t *testing.T) {
	f := fire.New()
	l := []api.List{on(0, 2, 0), on(0, 2, 0)}
	at(t, f, 0, l)
	f.Start(0)
	at(t, f, 0, l, 1)
	at(t, f, 0, l, 0)
	at(t, f, 0, l, 1)
}

func TestP12_1StimListsCountToo(t *testing.T) {
	l := on(0, 1, 0)
	l.Stim = true
	at(t, fire.New(), 0, []api.List{l}, 0)
}

func TestP12_1NilFire(t *testing.T) {
	var f *fire.Fire
	f.Start(0)
	at(t, f, 0, []api.List{on(0, 1, 0)})
}

func memory(t *testing.T) *mem.Mem {
	t.Helper()
	m, e := mem.New(api.Map{Ram: 16, Segs: []api.Seg{{Len: 4, Pages: 2}}, Flash: [][]byte{{5, 6, 7, 8}}})
	if e != api.OK {
		t.Fatal(e)
	}
	m.Write(api.App, 0, 0, []byte{10, 11, 12, 13})
	return m
}

func TestP12_2Sample(t *testing.T) {
	m := memory(t)
	l := api.List{First: 3, Tables: [][]api.Entry{
		{{Size: 2, Area: 0, At: 1}, {Size: 1, Area: 1, At: 3}},
		{{Size: 2, Area: 0, At: 15}, {Size: 1, Area: 0, At: 0}, {Size: 1, Area: 9, At: 0}},
		{},
		{{Size: 0, Area: 0, At: 0}, {Size: 255, Area: 0, At: 0}},
	}}
	want := []api.Rep{
		{Kind: api.Dto, Code: 3, B: []byte{11, 12, 8}},
		{Kind: api.Dto, Code: 4, B: []byte{0, 0, 10, 0}},
		{Kind: api.Dto, Code: 5},
		{Kind: api.Dto, Code: 6, B: make([]byte, 255)},
	}
	same := func(a, b api.Rep) bool { return a.Kind == b.Kind && a.Code == b.Code && slices.Equal(a.B, b.B) }
	if got := fire.Sample(m, l); !slices.EqualFunc(got, want, same) {
		t.Error(got)
	}
	if got := fire.Sample(m, api.List{First: 3}); len(got) != 0 {
		t.Error(got)
	}
}

func TestP12_2SampleOfTheApplication(t *testing.T) {
	m := memory(t)
	m.Set(api.Xcp, 0, 1)
	l := api.List{Tables: [][]api.Entry{{{Size: 2, Area: 1, At: 0}}}}
	if got := fire.Sample(m, l); !slices.Equal(got[0].B, []byte{5, 6}) {
		t.Error(got)
	}
	m.Set(api.App, 0, 1)
	if got := fire.Sample(m, l); !slices.Equal(got[0].B, []byte{0, 0}) {
		t.Error(got)
	}
}

func TestP12_2Numbers(t *testing.T) {
	two := [][]api.Entry{{{Size: 1}}, {{Size: 1}}}
	for i, x := range []struct {
		first int
		want  [2]uint8
	}{{0, [2]uint8{0, 1}}, {255, [2]uint8{255, 0}}, {256, [2]uint8{0, 1}}, {-1, [2]uint8{255, 0}}, {-257, [2]uint8{255, 0}}, {math.MaxInt, [2]uint8{255, 0}}} {
		got := fire.Sample(nil, api.List{First: x.first, Tables: two})
		if len(got) != 2 || got[0].Code != x.want[0] || got[1].Code != x.want[1] || !slices.Equal(got[0].B, []byte{0}) {
			t.Error(i, got)
		}
	}
}

func TestP12_3SampleIsWhatStandsThere(t *testing.T) {
	m := memory(t)
	l := api.List{Tables: [][]api.Entry{{{Size: 2}}, {{Size: 2, At: 2}}}}
	s := fire.Sample(m, l)
	m.Write(api.App, 0, 0, []byte{99, 98, 97, 96})
	if !slices.Equal(s[0].B, []byte{10, 11}) || !slices.Equal(s[1].B, []byte{12, 13}) {
		t.Error("not at once", s)
	}
	s[0].B[0] = 1
	if b, _ := m.Read(api.App, 0, 0, 1); b[0] != 99 {
		t.Error("shared", b)
	}
}
