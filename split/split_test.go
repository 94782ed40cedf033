package split_test

import (
	"bytes"
	"math"
	"reflect"
	"testing"

	"calliper/api"
	"calliper/cmd"
	"calliper/daq"
	"calliper/lock"
	"calliper/mem"
	"calliper/slave"
	"calliper/split"
)

func c(code uint8, a ...uint8) api.Cmd {
	x := api.Cmd{Code: code}
	copy(x.A[:], a)
	return x
}

func w(code uint8, w uint32, a ...uint8) api.Cmd {
	x := c(code, a...)
	x.W = w
	return x
}

func b(code uint8, n uint8, b ...byte) api.Cmd {
	return api.Cmd{Code: code, A: [5]uint8{n}, B: b}
}

// same holds commands against those that are wanted, and wants that layer 6 puts them.
func same(t *testing.T, got, want []api.Cmd) {
	t.Helper()
	ok := len(got) == len(want)
	for i := 0; ok && i < len(got); i++ {
		x, y := got[i], want[i]
		ok = x.Code == y.Code && x.A == y.A && x.W == y.W && bytes.Equal(x.B, y.B)
	}
	if !ok {
		t.Error(got, "not", want)
	}
	for _, x := range got {
		if _, e := cmd.Put(x); e != api.OK {
			t.Error(x, e)
		}
	}
}

// count is n bytes from 1 on.
func count(n int) []byte {
	var l []byte
	for i := range n {
		l = append(l, byte(i+1))
	}
	return l
}

func TestP17_1Read(t *testing.T) {
	for i, x := range []struct {
		area uint8
		at   uint32
		n    int
		want []api.Cmd
		e    api.Errno
	}{
		{0, 4, 9, []api.Cmd{w(api.ShortUp, 4, 7, 0), w(api.ShortUp, 11, 2, 0)}, api.OK},
		{3, 4, 1, []api.Cmd{w(api.ShortUp, 4, 1, 3)}, api.OK},
		{255, 0, 7, []api.Cmd{w(api.ShortUp, 0, 7, 255)}, api.OK},
		{1, 0, 14, []api.Cmd{w(api.ShortUp, 0, 7, 1), w(api.ShortUp, 7, 7, 1)}, api.OK},
		{1, 1<<32 - 8, 8, []api.Cmd{w(api.ShortUp, 1<<32-8, 7, 1), w(api.ShortUp, 1<<32-1, 1, 1)}, api.OK},
		{1, 1<<32 - 1, 1, []api.Cmd{w(api.ShortUp, 1<<32-1, 1, 1)}, api.OK},
		{1, 1<<32 - 1, 2, nil, api.ErrArg},
		{1, 1<<32 - 8, 9, nil, api.ErrArg},
		{0, 0, 0, nil, api.ErrArg},
		{0, 0, -1, nil, api.ErrArg},
		{0, 0, 113, nil, api.ErrArg},
		{0, 0, math.MaxInt, nil, api.ErrArg},
		{0, 0, math.MinInt, nil, api.ErrArg},
	} {
		got, e := split.Read(x.area, x.at, x.n)
		if e != x.e {
			t.Error(i, e)
		}
		same(t, got, x.want)
	}
	if got, e := split.Read(0, 0, 112); e != api.OK || len(got) != 16 || got[15].W != 105 || got[15].A[0] != 7 {
		t.Error(got, e)
	}
}

func TestP17_1Join(t *testing.T) {
	for i, x := range []struct {
		l    [][]byte
		n    int
		want []byte
		e    api.Errno
	}{
		{nil, 0, nil, api.OK},
		{[][]byte{{}, nil}, 0, nil, api.OK},
		{[][]byte{{1, 2}, {}, {3}}, 3, []byte{1, 2, 3}, api.OK},
		{[][]byte{{1, 2}, {3}}, 2, nil, api.ErrCorrupt},
		{[][]byte{{1, 2}, {3}}, 4, nil, api.ErrCorrupt},
		{nil, 1, nil, api.ErrCorrupt},
		{nil, -1, nil, api.ErrCorrupt},
		{[][]byte{{1}}, math.MinInt, nil, api.ErrCorrupt},
	} {
		if got, e := split.Join(x.l, x.n); e != x.e || !bytes.Equal(got, x.want) {
			t.Error(i, got, e)
		}
	}
	room := []byte{1, 2, 3}
	l := [][]byte{room[:2], {4}}
	got, _ := split.Join(l, 3)
	one, _ := split.Join(l[:1], 2)
	got[0], one[1] = 99, 98
	if !bytes.Equal(room, []byte{1, 2, 3}) {
		t.Error("shared", room)
	}
}

func TestP17_2Write(t *testing.T) {
	for i, x := range []struct {
		at   uint32
		b    []byte
		want []api.Cmd
		e    api.Errno
	}{
		{4, []byte{1, 2}, []api.Cmd{w(api.SetMta, 4, 9), b(api.Download, 2, 1, 2)}, api.OK},
		{0, count(6), []api.Cmd{w(api.SetMta, 0, 9), b(api.Download, 6, 1, 2, 3, 4, 5, 6)}, api.OK},
		{0, count(7), []api.Cmd{w(api.SetMta, 0, 9), b(api.Download, 6, 1, 2, 3, 4, 5, 6), b(api.Download, 1, 7)}, api.OK},
		{1<<32 - 1, count(1), []api.Cmd{w(api.SetMta, 1<<32-1, 9), b(api.Download, 1, 1)}, api.OK},
		{1<<32 - 1, count(2), nil, api.ErrArg},
		{0, nil, nil, api.ErrArg},
		{0, make([]byte, 113), nil, api.ErrArg},
	} {
		got, e := split.Write(9, x.at, x.b)
		if e != x.e {
			t.Error(i, e)
		}
		same(t, got, x.want)
	}
	if got, e := split.Write(0, 0, count(112)); e != api.OK || len(got) != 20 || got[19].A[0] != 4 || got[19].B[3] != 112 {
		t.Error(got, e)
	}
	from := count(7)
	got, _ := split.Write(0, 0, from)
	from[0] = 99
	got[1].B[5] = 98
	if got[1].B[0] != 1 || from[5] != 6 {
		t.Error("shared", got, from)
	}
}

func TestP17_2Open(t *testing.T) {
	for i, x := range []struct {
		key  []byte
		want []api.Cmd
		e    api.Errno
	}{
		{nil, nil, api.ErrArg},
		{count(21), nil, api.ErrArg},
		{count(1), []api.Cmd{b(api.Unlock, 1, 1)}, api.OK},
		{count(6), []api.Cmd{b(api.Unlock, 6, count(6)...)}, api.OK},
		{count(8), []api.Cmd{b(api.Unlock, 8, count(6)...), b(api.Unlock, 2, 7, 8)}, api.OK},
		{count(20), []api.Cmd{b(api.Unlock, 20, count(6)...), b(api.Unlock, 14, count(12)[6:]...), b(api.Unlock, 8, count(18)[12:]...), b(api.Unlock, 2, 19, 20)}, api.OK},
	} {
		got, e := split.Open(x.key)
		if e != x.e {
			t.Error(i, e)
		}
		same(t, got, x.want)
	}
	key := count(2)
	got, _ := split.Open(key)
	key[0], got[0].B[1] = 99, 98
	if got[0].B[0] != 1 || key[1] != 2 {
		t.Error("shared", got, key)
	}
}

// lists is two lists of three tables in all.
func lists() []api.List {
	return []api.List{
		{First: 77, Tables: [][]api.Entry{{{Size: 1, Area: 2, At: 3}, {Size: 6, Area: 5, At: 1<<32 - 1}}, {{Size: 7}}}, Stim: true, Event: 9, Pre: 8, Priority: 7, Chosen: true, On: true},
		{Tables: [][]api.Entry{{{Size: 4, At: 4}}}, Pre: 1},
	}
}

func TestP17_3Lay(t *testing.T) {
	want := []api.Cmd{
		c(api.FreeDaq), c(api.AllocDaq, 2),
		c(api.AllocOdt, 0, 2), c(api.AllocOdt, 1, 1),
		c(api.AllocEntry, 0, 0, 2), c(api.AllocEntry, 0, 1, 1), c(api.AllocEntry, 1, 0, 1),
		c(api.SetPtr, 0, 0, 0), w(api.WriteDaq, 3, 1, 2), w(api.WriteDaq, 1<<32-1, 6, 5),
		c(api.SetPtr, 0, 1, 0), w(api.WriteDaq, 0, 7, 0),
		c(api.SetPtr, 1, 0, 0), w(api.WriteDaq, 4, 4, 0),
		c(api.SetMode, 0, 1, 9, 8, 7), c(api.SetMode, 1, 0, 0, 1, 0),
		c(api.StartStop, 0, 2), c(api.StartAll, 1),
	}
	got, e := split.Lay(lists())
	if e != api.OK {
		t.Error(e)
	}
	same(t, got, want)
	none := lists()
	none[0].Chosen = false
	got, _ = split.Lay(none)
	same(t, got, append(append([]api.Cmd{}, want[:16]...), want[17]))
}

func TestP17_3LayRefuses(t *testing.T) {
	good := [][]api.Entry{{{Size: 1}}}
	many := func(n int) [][]api.Entry {
		var l [][]api.Entry
		for range n {
			l = append(l, []api.Entry{{Size: 1}})
		}
		return l
	}
	list := func(l [][]api.Entry) api.List { return api.List{Tables: l, Pre: 1} }
	entries := make([]api.Entry, 8)
	for i, x := range []struct {
		l []api.List
		e api.Errno
	}{
		{nil, api.ErrArg},
		{[]api.List{list(good), list(good), list(good), list(good)}, api.OK},
		{[]api.List{list(good), list(good), list(good), list(good), list(good)}, api.ErrArg},
		{[]api.List{list(many(16))}, api.OK},
		{[]api.List{list(many(17))}, api.ErrArg},
		{[]api.List{list(many(10)), list(many(7))}, api.ErrArg},
		{[]api.List{list(good), list(nil)}, api.ErrArg},
		{[]api.List{list([][]api.Entry{{{Size: 1}}, {}})}, api.ErrArg},
		{[]api.List{list([][]api.Entry{{{Size: 1}, {}}})}, api.ErrArg},
		{[]api.List{list([][]api.Entry{{{Size: 8}}})}, api.ErrArg},
		{[]api.List{list([][]api.Entry{{{Size: 7}, {Size: 1}}})}, api.ErrArg},
		{[]api.List{list([][]api.Entry{{{Size: 255}, {Size: 2}}})}, api.ErrArg},
		{[]api.List{list([][]api.Entry{entries})}, api.ErrArg},
		{[]api.List{list(good), {Tables: good}}, api.ErrArg},
	} {
		if got, e := split.Lay(x.l); e != x.e || (len(got) != 0) != (e == api.OK) {
			t.Error(i, got, e)
		}
	}
}

// TestP17_3LayLong: a list of n tables has 5 and 3 n commands, and one more an entry behind a table's first.
func TestP17_3LayLong(t *testing.T) {
	lay := func(tables, more int) ([]api.Cmd, api.Errno) {
		x := api.List{Pre: 1}
		for range tables {
			x.Tables = append(x.Tables, []api.Entry{{Size: 1}})
		}
		for i := range more {
			x.Tables[i%tables] = append(x.Tables[i%tables], api.Entry{Size: 1})
		}
		return split.Lay([]api.List{x})
	}
	if got, e := lay(16, 11); e != api.OK || len(got) != 64 {
		t.Error(len(got), e)
	}
	if got, e := lay(16, 12); e != api.ErrLong || len(got) != 0 {
		t.Error(len(got), e)
	}
	if got, e := lay(16, 96); e != api.ErrLong || len(got) != 0 {
		t.Error(len(got), e)
	}
	if got, e := lay(16, 112); e != api.ErrArg || len(got) != 0 {
		t.Error("ErrArg goes ahead of ErrLong", len(got), e)
	}
}

// play does commands, and is the bytes of their answers.
func play(t *testing.T, s *slave.Slave, l []api.Cmd) [][]byte {
	t.Helper()
	var out [][]byte
	for _, x := range l {
		r, e := s.Do(x, nil)
		if e != api.OK || len(r) != 1 || r[0].Kind != api.Pos {
			t.Fatal(x, r, e)
		}
		out = append(out, r[0].B)
	}
	return out
}

func TestP17_4WhatWasWrittenIsRead(t *testing.T) {
	for _, n := range []int{1, 5, 6, 7, 8, 12, 13, 14, 41, 42, 43, 111, 112} {
		m, _ := mem.New(api.Map{Ram: 200})
		s, _ := slave.New(m, lock.New(0))
		play(t, s, []api.Cmd{c(api.Connect, 0)})
		l, e := split.Write(0, 50, count(n))
		if e != api.OK {
			t.Fatal(n, e)
		}
		play(t, s, l)
		whole, _ := m.Read(api.App, 0, 0, 200)
		if !bytes.Equal(whole[50:50+n], count(n)) || whole[49] != 0 || whole[50+n] != 0 {
			t.Error(n, whole)
		}
		l, _ = split.Read(0, 50, n)
		got, e := split.Join(play(t, s, l), n)
		if e != api.OK || !bytes.Equal(got, count(n)) {
			t.Error(n, got, e)
		}
	}
}

func TestP17_4KeyOpens(t *testing.T) {
	for n := 1; n <= 20; n++ {
		k := lock.New(4)
		left, _, _ := k.Seed(0, 4, count(n))
		for left > 6 {
			left, _, _ = k.Seed(1, 0, nil)
		}
		l, _ := split.Open(lock.Key(count(n), 4))
		for _, x := range l {
			if e := k.Unlock(int(x.A[0]), x.B); e != api.OK {
				t.Error(n, e)
			}
		}
		if k.Locked() != 0 {
			t.Error(n)
		}
	}
}

func TestP17_4ListsAreAsTheyWereToBe(t *testing.T) {
	d, _ := daq.New(4)
	want := lists()
	want[0].Event = 3
	l, _ := split.Lay(want)
	for range 2 {
		d.Stop()
		for _, x := range l {
			if _, e := d.Do(x); e != api.OK {
				t.Fatal(x, e)
			}
		}
	}
	want[0].First, want[0].On, want[0].Chosen, want[1].First = 0, true, false, 2
	if got := d.Lists(); !reflect.DeepEqual(got, want) {
		t.Error(got)
	}
}
