package master_test

import (
	"bytes"
	"math"
	"reflect"
	"testing"

	"calliper/api"
	"calliper/lock"
	"calliper/master"
)

const (
	in  = 7
	out = 9
)

// rig is a Master that frames come to.
type rig struct {
	t *testing.T
	m *master.Master
}

func fresh(t *testing.T) rig {
	t.Helper()
	m, e := master.New(in, out, 2, 2)
	if e != api.OK || m == nil {
		t.Fatal(e)
	}
	return rig{t, m}
}

func (r rig) begin(o api.Op) {
	r.t.Helper()
	if e := r.m.Begin(o); e != api.OK {
		r.t.Error(o, e)
	}
}

// sends wants a frame of these bytes.
func (r rig) sends(want ...byte) {
	r.t.Helper()
	f, ok := r.m.Send()
	if !ok || f.Id != out || f.Ext || !bytes.Equal(f.B[:f.Len], want) {
		r.t.Error("sent", f, ok, "not", want)
	}
}

func (r rig) quiet() {
	r.t.Helper()
	if f, ok := r.m.Send(); ok || f != (api.Frame{}) {
		r.t.Error("sent", f)
	}
}

func of(id uint32, b ...byte) api.Frame {
	f := api.Frame{Id: id, Len: len(b)}
	copy(f.B[:], b)
	return f
}

// hears lets a frame of these bytes come.
func (r rig) hears(b ...byte) {
	r.t.Helper()
	if !r.m.Take(of(in, b...)) {
		r.t.Error("not taken", b)
	}
}

func (r rig) done(code uint8, e api.Errno, want ...byte) {
	r.t.Helper()
	for range 2 {
		if b, c, x := r.m.Done(); x != e || c != code || !bytes.Equal(b, want) {
			r.t.Error("done", b, c, x, "not", want, code, e)
		}
	}
}

// through sends all of a group, each answered by a positive one of no bytes.
func (r rig) through() {
	r.t.Helper()
	for {
		if _, ok := r.m.Send(); !ok {
			break
		}
		r.hears(255)
	}
}

// sampled wants a sample.
func (r rig) sampled(list int, lost bool, b ...[]byte) {
	r.t.Helper()
	s, ok := r.m.Sample()
	if !ok || !reflect.DeepEqual(s, api.Sample{List: list, Lost: lost, B: b}) {
		r.t.Error(s, ok)
	}
}

func (r rig) noSample() {
	r.t.Helper()
	if s, ok := r.m.Sample(); ok || s.List != 0 || s.Lost || len(s.B) != 0 {
		r.t.Error(s)
	}
}

// lists is one of two tables that is measured, and one of two tables that is set.
func lists() []api.List {
	two := [][]api.Entry{{{Size: 1}}, {{Size: 1}}}
	return []api.List{{Tables: two, Pre: 1, Chosen: true, First: 50}, {Tables: two, Pre: 1, Chosen: true, Stim: true}}
}

func TestP20_1New(t *testing.T) {
	for i, x := range []struct {
		in, out      uint32
		ticks, tries int
		e            api.Errno
	}{
		{1, 2, 1, 1, api.OK}, {2047, 0, 100, 5, api.OK}, {0, 2047, 1, 1, api.OK},
		{2048, 2, 1, 1, api.ErrArg}, {1, 2048, 1, 1, api.ErrArg}, {2, 2, 1, 1, api.ErrArg}, {math.MaxUint32, 1, 1, 1, api.ErrArg},
		{1, 2, 0, 1, api.ErrArg}, {1, 2, 101, 1, api.ErrArg}, {1, 2, 1, 0, api.ErrArg}, {1, 2, 1, 6, api.ErrArg},
	} {
		if m, e := master.New(x.in, x.out, x.ticks, x.tries); e != x.e || (m != nil) != (e == api.OK) {
			t.Error(i, e)
		}
	}
	r := fresh(t)
	r.done(0, api.ErrNone)
	r.quiet()
	r.noSample()
	if e := r.m.Push(0, nil); e != api.ErrNone {
		t.Error(e)
	}
}

func TestP20_2WhatBegins(t *testing.T) {
	for i, x := range []struct {
		o    api.Op
		want []byte
	}{
		{api.Op{Kind: api.OpOn}, []byte{193, 0}},
		{api.Op{Kind: api.OpOff}, []byte{194}},
		{api.Op{Kind: api.OpRead, Area: 3, At: 4, N: 2}, []byte{199, 2, 3, 0, 0, 0, 4}},
		{api.Op{Kind: api.OpWrite, Area: 3, At: 4, B: []byte{1}}, []byte{197, 3, 0, 0, 0, 4}},
		{api.Op{Kind: api.OpOpen, Res: 4}, []byte{204, 0, 4}},
		{api.Op{Kind: api.OpOpen, Res: 255}, []byte{204, 0, 255}},
		{api.Op{Kind: api.OpLay, Lists: lists()}, []byte{210}},
		{api.Op{Kind: api.OpStop}, []byte{218, 0}},
	} {
		r := fresh(t)
		r.begin(x.o)
		r.done(0, api.ErrWait)
		r.sends(x.want...)
		if r.quiet(); r.m.Begin(api.Op{Kind: api.OpOn}) != api.ErrWait || r.m.Begin(api.Op{}) != api.ErrWait {
			t.Error(i, "it is not done")
		}
	}
}

func TestP20_2Refused(t *testing.T) {
	many := lists()
	many[0].Tables = nil
	for range 8 {
		many[0].Tables = append(many[0].Tables, []api.Entry{{Size: 1}, {Size: 1}, {Size: 1}, {Size: 1}, {Size: 1}, {Size: 1}, {Size: 1}})
	}
	for i, x := range []struct {
		o api.Op
		e api.Errno
	}{
		{api.Op{}, api.ErrArg}, {api.Op{Kind: 8}, api.ErrArg}, {api.Op{Kind: 255}, api.ErrArg},
		{api.Op{Kind: api.OpRead}, api.ErrArg}, {api.Op{Kind: api.OpRead, N: 113}, api.ErrArg}, {api.Op{Kind: api.OpRead, N: 2, At: 1<<32 - 1}, api.ErrArg},
		{api.Op{Kind: api.OpWrite}, api.ErrArg}, {api.Op{Kind: api.OpWrite, B: make([]byte, 113)}, api.ErrArg},
		{api.Op{Kind: api.OpLay}, api.ErrArg}, {api.Op{Kind: api.OpLay, Lists: many}, api.ErrLong},
	} {
		r := fresh(t)
		if e := r.m.Begin(x.o); e != x.e {
			t.Error(i, e)
		}
		r.done(0, api.ErrNone)
		r.quiet()
	}
}

func TestP20_2RefusedLeavesAllAsItWas(t *testing.T) {
	r := fresh(t)
	r.begin(api.Op{Kind: api.OpLay, Lists: lists()})
	r.through()
	r.begin(api.Op{Kind: api.OpRead, N: 1})
	r.sends(199, 1, 0, 0, 0, 0, 0)
	r.hears(255, 7)
	r.hears(0, 1)
	r.m.Begin(api.Op{Kind: api.OpLay})
	r.m.Begin(api.Op{Kind: api.OpWrite})
	r.m.Begin(api.Op{Kind: 99})
	r.done(0, api.OK, 7)
	r.hears(1, 2)
	r.sampled(0, false, []byte{1}, []byte{2})
	if e := r.m.Push(1, [][]byte{{1}, {2}}); e != api.OK {
		t.Error(e)
	}
}

func TestP20_2WhichListsItKnows(t *testing.T) {
	push := func(r rig) api.Errno { return r.m.Push(1, [][]byte{{1}, {2}}) }
	for _, o := range []api.Op{{Kind: api.OpOn}, {Kind: api.OpOff}} {
		r := fresh(t)
		r.begin(api.Op{Kind: api.OpLay, Lists: lists()})
		if e := push(r); e != api.OK {
			t.Error("from its Begin on", e)
		}
		r.hears(0, 1)
		r.hears(1, 2)
		r.sampled(0, false, []byte{1}, []byte{2})
		r.through()
		r.begin(o)
		if e := push(r); e != api.ErrNone {
			t.Error(o, e)
		}
		r.hears(0, 1)
		r.hears(1, 2)
		r.noSample()
	}
	for _, o := range []api.Op{{Kind: api.OpStop}, {Kind: api.OpOpen, Res: 1}, {Kind: api.OpRead, N: 1}, {Kind: api.OpWrite, B: []byte{1}}} {
		r := fresh(t)
		r.begin(api.Op{Kind: api.OpLay, Lists: lists()})
		r.through()
		r.hears(0, 1)
		r.begin(o)
		if e := push(r); e != api.OK {
			t.Error(o, e)
		}
		r.hears(1, 2)
		r.sampled(0, false, []byte{1}, []byte{2})
	}
}

func TestP20_2LayAnew(t *testing.T) {
	r := fresh(t)
	r.begin(api.Op{Kind: api.OpLay, Lists: lists()})
	r.through()
	r.hears(0, 1)
	r.begin(api.Op{Kind: api.OpLay, Lists: lists()})
	r.hears(1, 2)
	r.noSample()
	r.through()
	r.begin(api.Op{Kind: api.OpLay, Lists: lists()[1:]})
	if r.m.Push(1, [][]byte{{1}, {2}}) != api.ErrNone || r.m.Push(0, [][]byte{{1}, {2}}) != api.OK {
		t.Error("the lists that were laid last")
	}
}

func TestP20_2ListsAreNotKept(t *testing.T) {
	r := fresh(t)
	l := lists()
	r.begin(api.Op{Kind: api.OpLay, Lists: l})
	l[0].Tables, l[1].Stim = nil, false
	r.through()
	if e := r.m.Push(1, [][]byte{{1}, {2}}); e != api.OK {
		t.Error(e)
	}
	r.sends(2, 1)
}

func TestP20_3Read(t *testing.T) {
	r := fresh(t)
	r.begin(api.Op{Kind: api.OpRead, N: 2, At: 4})
	r.sends(199, 2, 0, 0, 0, 0, 4)
	r.hears(255, 7, 9)
	r.done(0, api.OK, 7, 9)
	r.quiet()
	r.begin(api.Op{Kind: api.OpRead, N: 9, At: 4})
	r.sends(199, 7, 0, 0, 0, 0, 4)
	r.hears(255, 1, 2, 3, 4, 5, 6, 7)
	r.done(0, api.ErrWait)
	r.sends(199, 2, 0, 0, 0, 0, 11)
	r.hears(255, 8, 9)
	r.done(0, api.OK, 1, 2, 3, 4, 5, 6, 7, 8, 9)
	b, _, _ := r.m.Done()
	b[0] = 99
	r.done(0, api.OK, 1, 2, 3, 4, 5, 6, 7, 8, 9)
}

func TestP20_3ReadCorrupt(t *testing.T) {
	r := fresh(t)
	r.begin(api.Op{Kind: api.OpRead, N: 2})
	r.sends(199, 2, 0, 0, 0, 0, 0)
	r.hears(255, 7)
	r.done(0, api.ErrCorrupt)
}

func TestP20_3Others(t *testing.T) {
	for i, o := range []api.Op{{Kind: api.OpOn}, {Kind: api.OpOff}, {Kind: api.OpWrite, B: []byte{1}}, {Kind: api.OpLay, Lists: lists()}, {Kind: api.OpStop}} {
		r := fresh(t)
		r.begin(o)
		for range 64 {
			if _, ok := r.m.Send(); ok {
				r.done(0, api.ErrWait)
				r.hears(255, 1, 2, 3)
			}
		}
		r.done(0, api.OK)
		r.begin(o)
		r.m.Send()
		r.hears(254, byte(30+i))
		r.done(byte(30+i), api.ErrSlave)
		r.begin(o)
		r.m.Send()
		r.m.Tick()
		r.done(0, api.ErrWait)
		r.m.Tick()
		r.sends(196)
		r.m.Tick()
		r.m.Tick()
		r.done(0, api.ErrTime)
	}
}

func TestP20_3Open(t *testing.T) {
	for n := 1; n <= 6; n++ {
		seed := []byte{3, 1, 4, 1, 5, 9}[:n]
		r := fresh(t)
		r.begin(api.Op{Kind: api.OpOpen, Res: 8})
		r.sends(204, 0, 8)
		r.hears(append([]byte{255, byte(n)}, seed...)...)
		r.done(0, api.ErrWait)
		if e := r.m.Begin(api.Op{Kind: api.OpOn}); e != api.ErrWait {
			t.Error(n, e)
		}
		r.sends(append([]byte{205, byte(n)}, lock.Key(seed, 8)...)...)
		r.done(0, api.ErrWait)
		r.hears(255, 5)
		r.done(0, api.OK)
		r.quiet()
	}
}

func TestP20_3OpenOfWhatIsNotLocked(t *testing.T) {
	r := fresh(t)
	r.begin(api.Op{Kind: api.OpOpen, Res: 1})
	r.sends(204, 0, 1)
	r.hears(255, 0)
	r.done(0, api.OK)
	r.quiet()
	r.begin(api.Op{Kind: api.OpOpen, Res: 1})
	r.sends(204, 0, 1)
	r.hears(255, 0, 9, 9)
	r.done(0, api.OK)
	r.quiet()
}

func TestP20_3OpenFaults(t *testing.T) {
	for _, x := range []struct {
		b []byte
		e api.Errno
	}{
		{nil, api.ErrCorrupt}, {[]byte{1}, api.ErrCorrupt}, {[]byte{3, 1, 2}, api.ErrCorrupt}, {[]byte{6, 1, 2, 3, 4, 5}, api.ErrCorrupt},
		{[]byte{7, 1, 2, 3, 4, 5}, api.ErrCorrupt}, {[]byte{255}, api.ErrCorrupt},
		{[]byte{7, 1, 2, 3, 4, 5, 6}, api.ErrLong}, {[]byte{20, 1, 2, 3, 4, 5, 6}, api.ErrLong}, {[]byte{255, 1, 2, 3, 4, 5, 6}, api.ErrLong},
	} {
		r := fresh(t)
		r.begin(api.Op{Kind: api.OpOpen, Res: 1})
		r.sends(204, 0, 1)
		r.hears(append([]byte{255}, x.b...)...)
		r.done(0, x.e)
		r.quiet()
		r.begin(api.Op{Kind: api.OpOn})
		r.done(0, api.ErrWait)
		r.sends(193, 0)
		r.hears(255, 1)
		r.done(0, api.OK)
	}
}

func TestP20_3OpenRefused(t *testing.T) {
	r := fresh(t)
	r.begin(api.Op{Kind: api.OpOpen, Res: 2})
	r.sends(204, 0, 2)
	r.hears(254, 1)
	r.done(1, api.ErrSlave)
	r.begin(api.Op{Kind: api.OpOpen, Res: 1})
	r.sends(204, 0, 1)
	r.hears(255, 1, 5)
	r.m.Send()
	r.hears(254, 91)
	r.done(91, api.ErrSlave)
	r.begin(api.Op{Kind: api.OpRead, N: 1})
	r.m.Send()
	r.hears(255, 1)
	r.done(0, api.OK, 1)
}

func TestP20_3SeedThatComesLate(t *testing.T) {
	r := fresh(t)
	r.begin(api.Op{Kind: api.OpOpen, Res: 1})
	r.sends(204, 0, 1)
	r.m.Tick()
	r.m.Tick()
	r.sends(196)
	r.hears(255, 1, 77)
	r.hears(254, 100)
	r.sends(204, 0, 1)
	r.hears(255, 1, 5)
	r.sends(append([]byte{205, 1}, lock.Key([]byte{5}, 1)...)...)
	r.hears(255, 0)
	r.done(0, api.OK)
}

func TestP20_4Push(t *testing.T) {
	r := fresh(t)
	r.begin(api.Op{Kind: api.OpLay, Lists: lists()})
	r.through()
	for i, x := range []struct {
		list int
		b    [][]byte
		e    api.Errno
	}{
		{0, [][]byte{{1}, {2}}, api.ErrNone}, {2, [][]byte{{1}, {2}}, api.ErrNone}, {-1, nil, api.ErrNone}, {math.MaxInt, nil, api.ErrNone}, {math.MinInt, nil, api.ErrNone},
		{1, nil, api.ErrArg}, {1, [][]byte{{1}}, api.ErrArg}, {1, [][]byte{{1}, {2}, {3}}, api.ErrArg}, {1, [][]byte{{1}, make([]byte, 8)}, api.ErrArg},
	} {
		if e := r.m.Push(x.list, x.b); e != x.e {
			t.Error(i, e)
		}
		r.quiet()
	}
	b := [][]byte{{1, 2, 3, 4, 5, 6, 7}, nil}
	if e := r.m.Push(1, b); e != api.OK {
		t.Error(e)
	}
	b[0][0] = 99
	if e := r.m.Push(1, [][]byte{{8}, {9, 10}}); e != api.OK {
		t.Error(e)
	}
	r.sends(2, 1, 2, 3, 4, 5, 6, 7)
	r.sends(3)
	r.sends(2, 8)
	r.sends(3, 9, 10)
	r.quiet()
}

func TestP20_4PushFull(t *testing.T) {
	r := fresh(t)
	r.begin(api.Op{Kind: api.OpLay, Lists: lists()})
	r.through()
	for i := range 32 {
		if e := r.m.Push(1, [][]byte{{1}, {2}}); e != api.OK {
			t.Error(i, e)
		}
	}
	if e := r.m.Push(1, [][]byte{{3}, {4}}); e != api.ErrFull {
		t.Error(e)
	}
	if e := r.m.Push(1, [][]byte{{3}}); e != api.ErrArg {
		t.Error("ErrArg goes ahead of ErrFull", e)
	}
	r.sends(2, 1)
	if e := r.m.Push(1, [][]byte{{3}, {4}}); e != api.ErrFull {
		t.Error(e)
	}
	r.sends(3, 2)
	if e := r.m.Push(1, [][]byte{{3}, {4}}); e != api.OK {
		t.Error(e)
	}
	for range 31 {
		r.sends(2, 1)
		r.sends(3, 2)
	}
	r.sends(2, 3)
	r.sends(3, 4)
	r.quiet()
}

func TestP20_4CommandsGoAhead(t *testing.T) {
	r := fresh(t)
	r.begin(api.Op{Kind: api.OpLay, Lists: lists()})
	r.through()
	r.m.Push(1, [][]byte{{1}, {2}})
	r.begin(api.Op{Kind: api.OpStop})
	r.sends(218, 0)
	r.sends(2, 1)
	r.hears(255)
	r.sends(3, 2)
	r.quiet()
}

func TestP20_4PushedPacketsStay(t *testing.T) {
	r := fresh(t)
	r.begin(api.Op{Kind: api.OpLay, Lists: lists()})
	r.through()
	r.m.Push(1, [][]byte{{1}, {2}})
	r.begin(api.Op{Kind: api.OpOff})
	r.sends(194)
	r.sends(2, 1)
	r.sends(3, 2)
}

func TestP20_5WhichFrames(t *testing.T) {
	r := fresh(t)
	r.begin(api.Op{Kind: api.OpOn})
	r.sends(193, 0)
	ext, long, bad := of(in, 255), of(in, 255), of(in, 255)
	ext.Ext, long.Len, bad.B[1] = true, 9, 1
	for i, f := range []api.Frame{ext, long, bad, of(out, 255), of(in+1, 255), of(in), of(in, 254), of(in, 253), of(in, 192), of(in, 252, 1)} {
		if r.m.Take(f) {
			t.Error(i, f)
		}
		r.done(0, api.ErrWait)
	}
	r.hears(253, 1, 2)
	r.hears(0, 1)
	r.hears(254, 100)
	r.done(0, api.ErrWait)
	r.hears(255, 1)
	r.done(0, api.OK)
	r.hears(255, 1)
	r.hears(254, 5)
	r.done(0, api.OK)
	r.noSample()
}

func TestP20_5Samples(t *testing.T) {
	r := fresh(t)
	r.begin(api.Op{Kind: api.OpLay, Lists: lists()})
	r.hears(64, 1)
	r.hears(1, 2)
	r.hears(0, 3)
	r.hears(2, 9)
	r.hears(3, 9)
	r.hears(1, 4)
	r.sampled(0, true, []byte{1}, []byte{2})
	r.sampled(0, false, []byte{3}, []byte{4})
	r.noSample()
}

func TestP20_5SamplesThatWait(t *testing.T) {
	r := fresh(t)
	r.begin(api.Op{Kind: api.OpLay, Lists: lists()})
	for i := range byte(70) {
		r.hears(0, i)
		r.hears(1, i)
	}
	for i := range byte(64) {
		r.sampled(0, false, []byte{i}, []byte{i})
	}
	r.noSample()
	r.hears(0, 99)
	r.hears(1, 99)
	r.sampled(0, false, []byte{99}, []byte{99})
}

func TestP20_5SamplesOutlastTheirLists(t *testing.T) {
	r := fresh(t)
	r.begin(api.Op{Kind: api.OpLay, Lists: lists()})
	r.hears(0, 1)
	r.hears(1, 2)
	r.through()
	r.begin(api.Op{Kind: api.OpOff})
	r.sampled(0, false, []byte{1}, []byte{2})
}

func TestP20_5NilMaster(t *testing.T) {
	var m *master.Master
	m.Tick()
	r := rig{t, m}
	r.quiet()
	r.noSample()
	r.done(0, api.ErrNone)
	if m.Begin(api.Op{Kind: api.OpOn}) != api.ErrNone || m.Begin(api.Op{}) != api.ErrNone || m.Push(0, nil) != api.ErrNone || m.Take(of(in, 255)) {
		t.Error("a nil master does something")
	}
}

func TestP20_6Bounded(t *testing.T) {
	x := uint32(9)
	next := func(n uint32) byte {
		x ^= x << 13
		x ^= x >> 17
		x ^= x << 5
		return byte(x % n)
	}
	r := fresh(t)
	for range 500 {
		o := api.Op{Kind: 1 + next(7), N: 40, B: make([]byte, 40), Res: 1, Lists: lists()}
		r.begin(o)
		ticks := 0
		for {
			if _, _, e := r.m.Done(); e != api.ErrWait {
				break
			}
			for {
				if _, ok := r.m.Send(); !ok {
					break
				}
				f := of(in, 253+next(3), next(8), next(255), next(255))
				if next(5) == 0 {
					f = of(in, 254, 100)
				}
				r.m.Take(f)
			}
			r.m.Tick()
			ticks++
		}
		if bound := 2 * 2 * 20 * 2; ticks > bound {
			t.Fatal(o.Kind, ticks)
		}
	}
}
