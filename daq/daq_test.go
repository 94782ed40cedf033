package daq_test

import (
	"bytes"
	"math"
	"reflect"
	"testing"

	"calliper/api"
	"calliper/cmd"
	"calliper/daq"
)

func c(code uint8, a ...uint8) api.Cmd {
	x := api.Cmd{Code: code}
	copy(x.A[:], a)
	return x
}

// put is WriteDaq of n bytes of an area.
func put(n, area uint8, at uint32) api.Cmd {
	return api.Cmd{Code: api.WriteDaq, A: [5]uint8{n, area}, W: at}
}

func fresh(t *testing.T) *daq.Daq {
	t.Helper()
	d, e := daq.New(2)
	if e != api.OK || d == nil {
		t.Fatal(e)
	}
	return d
}

func ok(t *testing.T, d *daq.Daq, l ...api.Cmd) {
	t.Helper()
	for _, x := range l {
		if b, e := d.Do(x); e != api.OK || len(b) != 0 && x.Code != api.StartStop {
			t.Error(x, b, e)
		}
	}
}

// no wants an error, and that nothing changes.
func no(t *testing.T, d *daq.Daq, want api.Errno, x api.Cmd) {
	t.Helper()
	was := d.Lists()
	if b, e := d.Do(x); e != want || len(b) != 0 {
		t.Error(x, b, e, "not", want)
	}
	if now := d.Lists(); !reflect.DeepEqual(was, now) {
		t.Error(x, was, now)
	}
}

// laid is a Daq of a list of two tables, of two entries and of one, and of a list of one table of one entry.
func laid(t *testing.T) *daq.Daq {
	d := fresh(t)
	ok(t, d, c(api.AllocDaq, 2), c(api.AllocOdt, 0, 2), c(api.AllocOdt, 1, 1),
		c(api.AllocEntry, 0, 0, 2), c(api.AllocEntry, 0, 1, 1), c(api.AllocEntry, 1, 0, 1),
		c(api.SetPtr, 0, 0, 0), put(3, 0, 8), put(4, 1, 2), c(api.SetPtr, 0, 1, 0), put(7, 0, 0),
		c(api.SetPtr, 1, 0, 0), put(1, 0, 5))
	return d
}

func TestP11_1New(t *testing.T) {
	for _, n := range []int{math.MinInt, -1, 0, 1, 2, 3, 4, 5, math.MaxInt} {
		d, e := daq.New(n)
		if may := n >= 1 && n <= 4; may != (e == api.OK) || may != (d != nil) || !may && e != api.ErrArg {
			t.Error(n, e)
		}
	}
	d := fresh(t)
	if len(d.Lists()) != 0 || d.Runs() {
		t.Error(d.Lists())
	}
	no(t, d, api.ErrSeq, c(api.AllocOdt, 0, 1))
}

func TestP11_1Lists(t *testing.T) {
	want := []api.List{
		{First: 0, Tables: [][]api.Entry{{{Size: 3, Area: 0, At: 8}, {Size: 4, Area: 1, At: 2}}, {{Size: 7}}}, Pre: 1},
		{First: 2, Tables: [][]api.Entry{{{Size: 1, At: 5}}}, Pre: 1},
	}
	d := laid(t)
	got := d.Lists()
	if !reflect.DeepEqual(got, want) {
		t.Error(got)
	}
	got[0].Tables[0][0].Size = 99
	got[1].Tables[0] = nil
	got[0].On = true
	if again := d.Lists(); !reflect.DeepEqual(again, want) || d.Runs() {
		t.Error("shared", again)
	}
}

func TestP11_1StopAndRuns(t *testing.T) {
	d := laid(t)
	ok(t, d, c(api.StartStop, 0, 1), c(api.StartStop, 1, 2))
	if l := d.Lists(); !l[0].On || l[0].Chosen || l[1].On || !l[1].Chosen || !d.Runs() {
		t.Error(l)
	}
	d.Stop()
	if l := d.Lists(); l[0].On || l[1].Chosen || d.Runs() {
		t.Error(l)
	}
	ok(t, d, c(api.StartStop, 1, 1))
	if !d.Runs() {
		t.Error("the second one runs")
	}
}

func TestP11_2Errors(t *testing.T) {
	d := laid(t)
	for _, x := range []api.Cmd{{}, {Code: 27}, {Code: 255}, {Code: api.FreeDaq, W: 1}, {Code: api.AllocDaq, A: [5]uint8{1, 1}}, {Code: api.StartAll, B: []byte{1}}, {Code: api.Status, W: 1}} {
		no(t, d, api.ErrArg, x)
	}
	for code := api.Connect; code < api.FreeDaq; code++ {
		x := api.Cmd{Code: code}
		if code == api.DownMax {
			x.B = make([]byte, 7)
		}
		no(t, d, api.ErrMine, x)
	}
}

func TestP11_2Busy(t *testing.T) {
	d := laid(t)
	ok(t, d, c(api.StartStop, 1, 1))
	for _, x := range []api.Cmd{c(api.FreeDaq), c(api.AllocDaq, 9), c(api.AllocOdt, 9, 9), c(api.AllocEntry, 9, 9, 9), c(api.AllocDaq, 1), c(api.AllocOdt, 0, 1)} {
		no(t, d, api.ErrBusy, x)
	}
	no(t, d, api.ErrArg, api.Cmd{Code: api.FreeDaq, W: 1})
	no(t, d, api.ErrBusy, c(api.SetPtr, 1, 0, 0))
	no(t, d, api.ErrArg, c(api.SetPtr, 1, 0, 1))
	no(t, d, api.ErrBusy, c(api.SetMode, 1, 0, 0, 1, 0))
	no(t, d, api.ErrArg, c(api.SetMode, 1, 2, 0, 1, 0))
	ok(t, d, c(api.SetPtr, 0, 0, 0), put(3, 0, 9), c(api.SetMode, 0, 1, 1, 2, 3))
	ok(t, d, c(api.StartStop, 1, 0), c(api.SetMode, 1, 0, 0, 1, 0), c(api.FreeDaq))
}

func TestP11_2FreeDaq(t *testing.T) {
	d := laid(t)
	ok(t, d, c(api.SetPtr, 0, 0, 0), c(api.FreeDaq))
	if l := d.Lists(); len(l) != 0 {
		t.Error(l)
	}
	no(t, d, api.ErrSeq, put(1, 0, 0))
	ok(t, d, c(api.AllocDaq, 1))
	if l := d.Lists(); len(l) != 1 || len(l[0].Tables) != 0 {
		t.Error(l)
	}
	ok(t, d, c(api.FreeDaq), c(api.FreeDaq))
}

func TestP11_2AllocDaq(t *testing.T) {
	for n := range 8 {
		d := fresh(t)
		if n > 4 {
			no(t, d, api.ErrFull, c(api.AllocDaq, uint8(n)))
			ok(t, d, c(api.AllocDaq, 1))
			continue
		}
		ok(t, d, c(api.AllocDaq, uint8(n)))
		l := d.Lists()
		if len(l) != n {
			t.Error(n, l)
		}
		for _, x := range l {
			x.Tables = nil
			if !reflect.DeepEqual(x, api.List{Pre: 1}) {
				t.Error(x)
			}
		}
		no(t, d, api.ErrSeq, c(api.AllocDaq, 1))
		no(t, d, api.ErrSeq, c(api.AllocDaq, 5))
	}
	no(t, laid(t), api.ErrSeq, c(api.AllocDaq, 1))
}

func TestP11_2AllocOdt(t *testing.T) {
	d := fresh(t)
	no(t, d, api.ErrSeq, c(api.AllocOdt, 0, 1))
	ok(t, d, c(api.AllocDaq, 3))
	no(t, d, api.ErrArg, c(api.AllocOdt, 3, 1))
	no(t, d, api.ErrFull, c(api.AllocOdt, 0, 17))
	ok(t, d, c(api.AllocOdt, 1, 0), c(api.AllocOdt, 1, 10))
	no(t, d, api.ErrSeq, c(api.AllocOdt, 1, 1))
	no(t, d, api.ErrSeq, c(api.AllocOdt, 1, 100))
	no(t, d, api.ErrFull, c(api.AllocOdt, 0, 7))
	ok(t, d, c(api.AllocOdt, 0, 6))
	no(t, d, api.ErrFull, c(api.AllocOdt, 2, 1))
	ok(t, d, c(api.AllocOdt, 2, 0))
	l := d.Lists()
	if len(l[0].Tables) != 6 || len(l[1].Tables) != 10 || len(l[2].Tables) != 0 || l[0].First != 0 || l[1].First != 6 || l[2].First != 16 {
		t.Error(l)
	}
	ok(t, d, c(api.AllocEntry, 0, 0, 1))
	no(t, d, api.ErrSeq, c(api.AllocOdt, 2, 0))
	no(t, d, api.ErrSeq, c(api.AllocOdt, 9, 0))
	d = fresh(t)
	ok(t, d, c(api.AllocDaq, 1), c(api.AllocOdt, 0, 1))
	no(t, d, api.ErrSeq, c(api.AllocOdt, 0, 1))
	no(t, d, api.ErrSeq, c(api.AllocOdt, 0, 0))
}

func TestP11_2AllocEntry(t *testing.T) {
	d := fresh(t)
	no(t, d, api.ErrSeq, c(api.AllocEntry, 0, 0, 1))
	ok(t, d, c(api.AllocDaq, 1))
	no(t, d, api.ErrSeq, c(api.AllocEntry, 0, 0, 1))
	ok(t, d, c(api.AllocOdt, 0, 2))
	no(t, d, api.ErrArg, c(api.AllocEntry, 1, 0, 1))
	no(t, d, api.ErrArg, c(api.AllocEntry, 0, 2, 1))
	no(t, d, api.ErrFull, c(api.AllocEntry, 0, 0, 8))
	ok(t, d, c(api.AllocEntry, 0, 0, 0), c(api.AllocEntry, 0, 0, 7))
	no(t, d, api.ErrSeq, c(api.AllocEntry, 0, 0, 1))
	no(t, d, api.ErrSeq, c(api.AllocEntry, 0, 0, 9))
	ok(t, d, c(api.AllocEntry, 0, 1, 1))
	if l := d.Lists(); !reflect.DeepEqual(l[0].Tables, [][]api.Entry{make([]api.Entry, 7), make([]api.Entry, 1)}) {
		t.Error(l)
	}
}

func TestP11_2AllocEntryOfNoneIsAStep(t *testing.T) {
	d := fresh(t)
	ok(t, d, c(api.AllocDaq, 2), c(api.AllocOdt, 0, 1), c(api.AllocEntry, 0, 0, 0))
	no(t, d, api.ErrSeq, c(api.AllocOdt, 1, 1))
	d = fresh(t)
	ok(t, d, c(api.AllocDaq, 0))
	no(t, d, api.ErrSeq, c(api.AllocDaq, 1))
	no(t, d, api.ErrArg, c(api.AllocOdt, 0, 0))
	d = fresh(t)
	ok(t, d, c(api.AllocDaq, 1), c(api.AllocOdt, 0, 0))
	no(t, d, api.ErrArg, c(api.AllocEntry, 0, 0, 1))
}

func TestP11_2SetPtr(t *testing.T) {
	d := laid(t)
	for _, x := range []api.Cmd{c(api.SetPtr, 2, 0, 0), c(api.SetPtr, 0, 2, 0), c(api.SetPtr, 0, 0, 2), c(api.SetPtr, 1, 1, 0), c(api.SetPtr, 1, 0, 1), c(api.SetPtr, 255, 255, 255)} {
		no(t, d, api.ErrArg, x)
	}
	ok(t, d, c(api.SetPtr, 0, 0, 1))
	no(t, d, api.ErrArg, c(api.SetPtr, 9, 0, 0))
	ok(t, d, put(1, 2, 3))
	if l := d.Lists(); l[0].Tables[0][1] != (api.Entry{Size: 1, Area: 2, At: 3}) {
		t.Error("the pointer stays behind an error", l)
	}
}

func TestP11_2WriteDaq(t *testing.T) {
	d := laid(t)
	no(t, d, api.ErrSeq, put(1, 0, 0))
	no(t, d, api.ErrSeq, put(0, 0, 0))
	ok(t, d, c(api.SetPtr, 0, 0, 0))
	no(t, d, api.ErrArg, put(0, 0, 0))
	no(t, d, api.ErrArg, put(4, 0, 0))
	no(t, d, api.ErrArg, put(255, 0, 0))
	ok(t, d, put(2, 5, 1<<32-1))
	no(t, d, api.ErrArg, put(6, 0, 0))
	ok(t, d, put(5, 255, 7))
	no(t, d, api.ErrSeq, put(1, 0, 0))
	if l := d.Lists(); !reflect.DeepEqual(l[0].Tables[0], []api.Entry{{Size: 2, Area: 5, At: 1<<32 - 1}, {Size: 5, Area: 255, At: 7}}) {
		t.Error(l)
	}
	ok(t, d, c(api.SetPtr, 1, 0, 0), c(api.StartStop, 1, 1))
	no(t, d, api.ErrArg, put(8, 0, 0))
	no(t, d, api.ErrBusy, put(1, 0, 0))
	ok(t, d, c(api.StartStop, 1, 0), put(7, 0, 0))
}

func TestP11_2SetMode(t *testing.T) {
	d := laid(t)
	for _, x := range []api.Cmd{c(api.SetMode, 2, 0, 0, 1, 0), c(api.SetMode, 0, 2, 0, 1, 0), c(api.SetMode, 0, 0, 2, 1, 0), c(api.SetMode, 0, 0, 0, 0, 0), c(api.SetMode, 0, 0, 255, 1, 0)} {
		no(t, d, api.ErrArg, x)
	}
	ok(t, d, c(api.SetMode, 0, 1, 1, 200, 9))
	if l := d.Lists(); !l[0].Stim || l[0].Event != 1 || l[0].Pre != 200 || l[0].Priority != 9 || l[1].Stim || l[1].Pre != 1 {
		t.Error(l)
	}
	ok(t, d, c(api.SetMode, 0, 0, 0, 1, 255))
	if l := d.Lists(); l[0].Stim || l[0].Event != 0 || l[0].Pre != 1 || l[0].Priority != 255 {
		t.Error(l)
	}
}

func TestP11_2StartStop(t *testing.T) {
	d := laid(t)
	no(t, d, api.ErrArg, c(api.StartStop, 2, 0))
	no(t, d, api.ErrArg, c(api.StartStop, 0, 3))
	for i, x := range []struct {
		list, what, first uint8
		on, chosen        bool
	}{
		{1, 2, 2, false, true}, {1, 1, 2, true, true}, {1, 0, 2, false, false},
		{0, 1, 0, true, false}, {0, 2, 0, true, true}, {0, 1, 0, true, true}, {0, 0, 0, false, false}, {0, 0, 0, false, false},
	} {
		b, e := d.Do(c(api.StartStop, x.list, x.what))
		l := d.Lists()[x.list]
		if e != api.OK || !bytes.Equal(b, []byte{x.first}) || l.On != x.on || l.Chosen != x.chosen {
			t.Error(i, b, e, l)
		}
	}
}

func TestP11_2Ready(t *testing.T) {
	d := fresh(t)
	ok(t, d, c(api.AllocDaq, 2))
	for _, step := range []api.Cmd{c(api.AllocOdt, 1, 2), c(api.AllocEntry, 1, 0, 2), c(api.AllocEntry, 1, 1, 1), c(api.SetPtr, 1, 0, 0), put(1, 0, 0), put(1, 0, 0), c(api.SetPtr, 1, 1, 0)} {
		no(t, d, api.ErrSeq, c(api.StartStop, 1, 1))
		no(t, d, api.ErrSeq, c(api.StartStop, 1, 2))
		ok(t, d, c(api.StartStop, 1, 0), step)
	}
	no(t, d, api.ErrSeq, c(api.StartStop, 1, 1))
	ok(t, d, put(1, 0, 0), c(api.StartStop, 1, 2), c(api.StartStop, 1, 1))
	no(t, d, api.ErrSeq, c(api.StartStop, 0, 2))
}

func TestP11_2StartAll(t *testing.T) {
	d := laid(t)
	no(t, d, api.ErrArg, c(api.StartAll, 3))
	states := func(want ...bool) {
		t.Helper()
		l := d.Lists()
		if got := []bool{l[0].On, l[0].Chosen, l[1].On, l[1].Chosen}; !reflect.DeepEqual(got, want) {
			t.Error(got, want)
		}
	}
	ok(t, d, c(api.StartStop, 0, 2), c(api.StartAll, 1))
	states(true, false, false, false)
	ok(t, d, c(api.StartStop, 1, 2), c(api.StartAll, 1))
	states(true, false, true, false)
	ok(t, d, c(api.StartStop, 0, 2), c(api.StartAll, 2))
	states(false, false, true, false)
	ok(t, d, c(api.StartStop, 0, 2))
	no(t, d, api.ErrArg, c(api.StartAll, 9))
	states(false, true, true, false)
	ok(t, d, c(api.StartAll, 0))
	states(false, false, false, false)
	ok(t, d, c(api.StartAll, 1), c(api.StartAll, 2))
	states(false, false, false, false)
}

func TestP11_2NilDaq(t *testing.T) {
	var d *daq.Daq
	d.Stop()
	if b, e := d.Do(api.Cmd{}); len(b) != 0 || e != api.ErrNone || d.Runs() || len(d.Lists()) != 0 {
		t.Error(b, e)
	}
}

// TestP11_3 goes through many commands, one as good as the other, and holds what follows against each step.
func TestP11_3WhatRunsStaysAsItIs(t *testing.T) {
	r := uint32(1)
	draw := func(n uint32) uint8 {
		r ^= r << 13
		r ^= r >> 17
		r ^= r << 5
		return uint8(r % n)
	}
	ran := 0
	for round := range 300 {
		d := fresh(t)
		if round%2 == 0 {
			d = laid(t)
		}
		for range 200 {
			x := api.Cmd{Code: api.FreeDaq + draw(9)}
			if x.Code == api.FreeDaq && draw(8) > 0 {
				continue
			}
			small, great, _, _ := cmd.Shape(x.Code)
			for i := range small {
				x.A[i] = draw(3)
			}
			if great {
				x.W = uint32(draw(9))
			}
			was := d.Lists()
			d.Do(x)
			held(t, was, d.Lists(), x)
			if d.Runs() {
				ran++
			}
		}
	}
	if ran < 1000 {
		t.Error("hardly any list ran", ran)
	}
}

// held tells where lists break P11.3.
func held(t *testing.T, was, now []api.List, x api.Cmd) {
	t.Helper()
	first := 0
	for i, l := range now {
		if l.First != first {
			t.Error(x, "numbered through", now)
		}
		first += len(l.Tables)
		if (l.On || l.Chosen) && len(l.Tables) == 0 {
			t.Error(x, "runs without tables", l)
		}
		for _, table := range l.Tables {
			n := 0
			for _, entry := range table {
				n += int(entry.Size)
				if (l.On || l.Chosen) && entry.Size == 0 {
					t.Error(x, "runs with an empty entry", l)
				}
			}
			if n > 7 || (l.On || l.Chosen) && n == 0 {
				t.Error(x, n, l)
			}
		}
		if l.On && was[i].On {
			a, b := l, was[i]
			a.Chosen, b.Chosen = false, false
			if !reflect.DeepEqual(a, b) {
				t.Error(x, "changed while it ran", a, b)
			}
		}
	}
	if first > 16 || len(now) > 4 {
		t.Error(x, now)
	}
}
