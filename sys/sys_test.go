package sys_test

import (
	"bytes"
	"math"
	"reflect"
	"testing"

	"calliper/api"
	"calliper/lock"
	"calliper/sys"
)

const (
	in  = 1 // what the slave hears
	out = 2 // what the master hears
)

var draw = []byte{3, 1, 4}

func conf(res uint8) api.Conf {
	return api.Conf{
		Map: api.Map{Ram: 64, Segs: []api.Seg{{Len: 8, Pages: 2}}, Flash: [][]byte{{1, 2, 3, 4, 5, 6, 7, 8}}},
		Res: res, Events: 2, Queue: 16, In: in, Out: out,
	}
}

// rig is a Sys that things happen in.
type rig struct {
	t *testing.T
	s *sys.Sys
}

func fresh(t *testing.T, res uint8) rig {
	t.Helper()
	s, e := sys.New(conf(res), 3, 2)
	if e != api.OK || s == nil {
		t.Fatal(e)
	}
	return rig{t, s}
}

// on is one that is connected.
func on(t *testing.T, res uint8) rig {
	t.Helper()
	r := fresh(t, res)
	r.op(api.Op{Kind: api.OpOn})
	return r
}

func (r rig) step(kinds ...uint8) {
	r.t.Helper()
	for _, k := range kinds {
		if e := r.s.Step(api.Act{Kind: k, B: draw}); e != api.OK {
			r.t.Error(k, e)
		}
	}
}

func (r rig) begin(o api.Op) {
	r.t.Helper()
	if e := r.s.Step(api.Act{Kind: api.AcBegin, Op: o}); e != api.OK {
		r.t.Error(o, e)
	}
}

// op asks for something, and lets it be done.
func (r rig) op(o api.Op, want ...byte) {
	r.t.Helper()
	r.begin(o)
	r.s.Rounds(70, draw)
	r.done(0, api.OK, want...)
}

func (r rig) done(code uint8, e api.Errno, want ...byte) {
	r.t.Helper()
	if b, c, x := r.s.Done(); x != e || c != code || !bytes.Equal(b, want) {
		r.t.Error(b, c, x, "not", want, code, e)
	}
}

func (r rig) app(at uint32, b ...byte) {
	r.t.Helper()
	if e := r.s.Step(api.Act{Kind: api.AcApp, At: at, B: b}); e != api.OK {
		r.t.Error(e)
	}
}

func (r rig) event(n int) {
	r.t.Helper()
	if e := r.s.Step(api.Act{Kind: api.AcEvent, N: n}); e != api.OK {
		r.t.Error(e)
	}
}

func (r rig) ram(at uint32, want ...byte) {
	r.t.Helper()
	if got, _ := r.s.Mem().Read(api.App, 0, at, len(want)); !bytes.Equal(got, want) {
		r.t.Error(got, "not", want)
	}
}

// put lets a frame come from elsewhere.
func (r rig) put(id uint32, b ...byte) {
	r.t.Helper()
	f := api.Frame{Id: id, Len: len(b)}
	copy(f.B[:], b)
	if e := r.s.Step(api.Act{Kind: api.AcPut, F: f}); e != api.OK {
		r.t.Error(e)
	}
}

func (r rig) idle(want bool) {
	r.t.Helper()
	if r.s.Idle() != want {
		r.t.Error("idle", !want)
	}
}

// list is one of tables of a byte each, from an address on.
func list(stim bool, event uint8, at uint32, tables int) api.List {
	l := api.List{Stim: stim, Event: event, Pre: 1, Chosen: true}
	for i := range tables {
		l.Tables = append(l.Tables, []api.Entry{{Size: 1, At: at + uint32(i)}})
	}
	return l
}

func TestP21_1New(t *testing.T) {
	for i, x := range []struct {
		change       func(c *api.Conf)
		ticks, tries int
		e            api.Errno
	}{
		{func(c *api.Conf) {}, 3, 2, api.OK},
		{func(c *api.Conf) { c.In, c.Out = 2047, 0 }, 100, 5, api.OK},
		{func(c *api.Conf) { c.Map.Ram = -1 }, 3, 2, api.ErrArg},
		{func(c *api.Conf) { c.Events = 9 }, 3, 2, api.ErrArg},
		{func(c *api.Conf) { c.Queue = 0 }, 3, 2, api.ErrArg},
		{func(c *api.Conf) { c.In = c.Out }, 3, 2, api.ErrArg},
		{func(c *api.Conf) { c.In = 2048 }, 3, 2, api.ErrArg},
		{func(c *api.Conf) {}, 0, 2, api.ErrArg},
		{func(c *api.Conf) {}, 3, 6, api.ErrArg},
	} {
		c := conf(0)
		x.change(&c)
		if s, e := sys.New(c, x.ticks, x.tries); e != x.e || (s != nil) != (e == api.OK) {
			t.Error(i, e)
		}
	}
	r := fresh(t, 255)
	r.done(0, api.ErrNone)
	if r.idle(true); r.s.Locked() != 13 {
		t.Error(r.s.Locked())
	}
}

func TestP21_1WhatBoxesLetIn(t *testing.T) {
	for _, x := range []struct {
		f    api.Frame
		idle bool
	}{
		{api.Frame{Id: in, Len: 1, B: [8]byte{195}}, false}, {api.Frame{Id: out, Len: 1, B: [8]byte{255}}, false},
		{api.Frame{Id: 0, Len: 1}, true}, {api.Frame{Id: 3}, true}, {api.Frame{Id: 1024 + in}, true},
		{api.Frame{Id: in, Ext: true}, true}, {api.Frame{Id: out, Ext: true}, true}, {api.Frame{Id: in, Len: 9}, true},
	} {
		r := fresh(t, 0)
		if e := r.s.Step(api.Act{Kind: api.AcPut, F: x.f}); e != api.OK {
			t.Error(x.f, e)
		}
		r.idle(x.idle)
	}
}

func TestP21_2StepByStep(t *testing.T) {
	r := fresh(t, 0)
	r.begin(api.Op{Kind: api.OpOn})
	r.idle(true)
	r.step(api.AcMaster)
	r.idle(false)
	r.step(api.AcMaster, api.AcBus)
	r.idle(false)
	r.step(api.AcSlave)
	r.idle(true)
	r.done(0, api.ErrWait)
	r.step(api.AcSlave)
	r.idle(false)
	r.step(api.AcBus)
	r.idle(false)
	r.step(api.AcMaster)
	r.idle(true)
	r.done(0, api.OK)
}

func TestP21_2BadActs(t *testing.T) {
	r := fresh(t, 0)
	for _, kind := range []uint8{0, 11, 255} {
		if e := r.s.Step(api.Act{Kind: kind}); e != api.ErrArg {
			t.Error(kind, e)
		}
	}
	for _, n := range []int{-1, 256, math.MaxInt, math.MinInt} {
		if e := r.s.Step(api.Act{Kind: api.AcEvent, N: n}); e != api.ErrArg {
			t.Error(n, e)
		}
	}
	r.event(0)
	r.event(255)
}

func TestP21_2ErrorsOfOthers(t *testing.T) {
	r := fresh(t, 0)
	for i, x := range []struct {
		a api.Act
		e api.Errno
	}{
		{api.Act{Kind: api.AcBegin}, api.ErrArg},
		{api.Act{Kind: api.AcBegin, Op: api.Op{Kind: api.OpRead, N: 113}}, api.ErrArg},
		{api.Act{Kind: api.AcPush, N: 0}, api.ErrNone},
		{api.Act{Kind: api.AcApp, At: 64, B: []byte{1}}, api.ErrAddr},
		{api.Act{Kind: api.AcApp, Area: 1, B: []byte{1}}, api.ErrWrite},
		{api.Act{Kind: api.AcBegin, Op: api.Op{Kind: api.OpOn}}, api.OK},
		{api.Act{Kind: api.AcBegin, Op: api.Op{Kind: api.OpOn}}, api.ErrWait},
	} {
		if e := r.s.Step(x.a); e != x.e {
			t.Error(i, e)
		}
	}
}

func TestP21_2Lost(t *testing.T) {
	r := on(t, 0)
	r.app(3, 1, 2)
	r.begin(api.Op{Kind: api.OpRead, At: 3, N: 2})
	r.step(api.AcMaster, api.AcLost)
	r.idle(true)
	r.s.Rounds(2, draw)
	r.done(0, api.ErrWait)
	r.s.Rounds(3, draw)
	r.done(0, api.OK, 1, 2)
	r.begin(api.Op{Kind: api.OpRead, At: 3, N: 2})
	for range 20 {
		r.step(api.AcMaster, api.AcLost, api.AcTick)
	}
	r.done(0, api.ErrTime)
}

func TestP21_2MasterHearsAheadOfSending(t *testing.T) {
	r := fresh(t, 0)
	r.begin(api.Op{Kind: api.OpOn})
	r.put(out, 253, 1)
	r.step(api.AcMaster)
	r.idle(true)
	r.step(api.AcMaster)
	r.idle(false)
}

func TestP21_2SlaveHearsAheadOfSending(t *testing.T) {
	r := on(t, 0)
	r.put(in, 198, 14)
	r.step(api.AcSlave)
	r.put(in, 194)
	r.step(api.AcSlave, api.AcBus)
	r.idle(true)
	r.step(api.AcSlave)
	r.idle(false)
	r.op(api.Op{Kind: api.OpOn})
}

func TestP21_2NothingIsToldToAFullBox(t *testing.T) {
	r := on(t, 0)
	r.op(api.Op{Kind: api.OpLay, Lists: []api.List{list(false, 0, 0, 1), list(true, 1, 8, 5)}})
	for i := range byte(5) {
		r.app(0, i)
		r.event(0)
	}
	for range 9 {
		r.step(api.AcSlave)
	}
	for range 9 {
		r.step(api.AcBus, api.AcMaster, api.AcSlave)
	}
	for i := range byte(5) {
		if s, ok := r.s.Sample(); !ok || !reflect.DeepEqual(s, api.Sample{B: [][]byte{{i}}}) {
			t.Error(i, s, ok)
		}
	}
	if e := r.s.Step(api.Act{Kind: api.AcPush, N: 1, L: [][]byte{{1}, {2}, {3}, {4}, {5}}}); e != api.OK {
		t.Error(e)
	}
	for range 9 {
		r.step(api.AcMaster)
	}
	for range 9 {
		r.step(api.AcBus, api.AcSlave, api.AcMaster)
	}
	r.event(1)
	r.ram(8, 1, 2, 3, 4, 5)
}

func TestP21_2MasterIsFirstOnTheBus(t *testing.T) {
	r := on(t, 0)
	r.begin(api.Op{Kind: api.OpRead, N: 1})
	r.put(in, 195)
	r.step(api.AcSlave, api.AcSlave, api.AcMaster)
	r.step(api.AcBus, api.AcSlave)
	r.done(0, api.ErrWait)
	r.step(api.AcBus, api.AcMaster)
	r.done(0, api.OK, 0)
}

func TestP21_2SlaveDraws(t *testing.T) {
	r := on(t, 1)
	r.begin(api.Op{Kind: api.OpOpen, Res: 1})
	r.step(api.AcMaster, api.AcBus)
	if e := r.s.Step(api.Act{Kind: api.AcSlave}); e != api.OK {
		t.Error(e)
	}
	r.step(api.AcSlave, api.AcBus, api.AcMaster)
	r.done(1, api.ErrSlave)
	r.op(api.Op{Kind: api.OpOpen, Res: 1})
	if r.s.Locked() != 0 {
		t.Error(r.s.Locked())
	}
}

func TestP21_3Rounds(t *testing.T) {
	r := fresh(t, 0)
	r.begin(api.Op{Kind: api.OpOn})
	for _, n := range []int{0, -1, math.MinInt} {
		r.s.Rounds(n, draw)
		r.done(0, api.ErrWait)
		r.idle(true)
	}
	r.s.Rounds(1, draw)
	r.done(0, api.OK)
	r.begin(api.Op{Kind: api.OpRead, N: 64})
	r.s.Rounds(9, draw)
	r.done(0, api.ErrWait)
	r.s.Rounds(1, draw)
	r.done(0, api.OK, make([]byte, 64)...)
}

// TestP21_3RoundIsItsSteps holds Rounds against the steps that the document names.
func TestP21_3RoundIsItsSteps(t *testing.T) {
	a, b := on(t, 13), on(t, 13)
	for _, o := range []api.Op{{Kind: api.OpOpen, Res: 4}, {Kind: api.OpLay, Lists: []api.List{list(false, 0, 0, 3)}}, {Kind: api.OpRead, N: 20}} {
		a.begin(o)
		b.begin(o)
		for range 30 {
			a.event(0)
			b.event(0)
			a.s.Rounds(1, draw)
			b.step(api.AcMaster, api.AcBus, api.AcSlave, api.AcBus, api.AcSlave, api.AcBus, api.AcMaster, api.AcTick)
			x, xc, xe := a.s.Done()
			y, yc, ye := b.s.Done()
			s, sok := a.s.Sample()
			u, uok := b.s.Sample()
			if !bytes.Equal(x, y) || xc != yc || xe != ye || a.s.Idle() != b.s.Idle() || sok != uok || sok && !reflect.DeepEqual(s, u) {
				t.Fatal(o, x, y, xe, ye, s, u)
			}
		}
	}
}

func TestP21_3RoundsTick(t *testing.T) {
	r := fresh(t, 0)
	r.begin(api.Op{Kind: api.OpRead, N: 1})
	r.s.Rounds(5, draw)
	r.done(0, api.ErrWait)
	r.s.Rounds(1, draw)
	r.done(0, api.ErrTime)
}

func TestP21_3Mem(t *testing.T) {
	r := on(t, 0)
	r.app(0, 5)
	m := r.s.Mem()
	m.Write(api.App, 0, 0, []byte{9})
	r.ram(0, 5)
}

func TestP21_3NilSys(t *testing.T) {
	var s *sys.Sys
	s.Rounds(3, draw)
	x, ok := s.Sample()
	b, code, e := s.Done()
	if ok || x.List != 0 || x.Lost || len(x.B) != 0 || len(b) != 0 || code != 0 || e != api.ErrNone || s.Mem() != nil || s.Locked() != 0 || !s.Idle() || s.Step(api.Act{Kind: api.AcBus}) != api.ErrNone || s.Step(api.Act{}) != api.ErrNone {
		t.Error("a nil Sys is there")
	}
}

// dice is numbers one as good as the other, the same each time.
type dice uint32

func (d *dice) next(n uint32) uint32 {
	x := uint32(*d)
	x ^= x << 13
	x ^= x >> 17
	x ^= x << 5
	*d = dice(x)
	return x % n
}

// anything lets something happen: frames from elsewhere, too.
func (r rig) anything(d *dice) {
	a := api.Act{Kind: 1 + uint8(d.next(10)), N: int(d.next(3)), At: d.next(70), Area: uint8(d.next(3)), B: make([]byte, d.next(25))}
	for i := range a.B {
		a.B[i] = byte(d.next(256))
	}
	a.F = api.Frame{Id: d.next(4), Len: 8, B: [8]byte{byte(d.next(256)), byte(d.next(5)), byte(d.next(3)), 0, 0, 0, byte(d.next(70)), 1}}
	a.Op = api.Op{Kind: 1 + uint8(d.next(7)), Area: a.Area, Res: 1 << d.next(4), At: a.At, N: int(d.next(30)), B: a.B, Lists: []api.List{list(false, 0, 8, 2), list(true, 1, 16, 2)}}
	a.L = [][]byte{{1}, {2}}
	r.s.Step(a)
}

// TestP21_4WhateverCameAheadItEnds lets anything happen, and then wants what was asked for to end.
func TestP21_4WhateverCameAheadItEnds(t *testing.T) {
	d := dice(11)
	for run := range 60 {
		r := fresh(t, uint8(d.next(16)))
		for range 400 {
			r.anything(&d)
		}
		r.s.Rounds(400, draw)
		if _, _, e := r.s.Done(); e == api.ErrWait {
			t.Fatal(run, "it does not end")
		}
		r.idle(true)
		r.begin(api.Op{Kind: api.OpRead, N: 30})
		r.s.Rounds(2*2*5*3, draw)
		if _, _, e := r.s.Done(); e == api.ErrWait {
			t.Fatal(run, "it does not end")
		}
	}
}

// TestP21_4ReadAndWritten loses frames in between, so that each answer comes in its round, or not at all.
func TestP21_4ReadAndWritten(t *testing.T) {
	d := dice(77)
	var good int
	for range 600 {
		r := on(t, 0)
		was := make([]byte, 64)
		for i := range was {
			was[i] = byte(d.next(256))
		}
		r.app(0, was...)
		at, n := d.next(40), int(1+d.next(20))
		b := make([]byte, n)
		for i := range b {
			b[i] = byte(d.next(256))
		}
		writes := d.next(2) == 0
		if writes {
			r.begin(api.Op{Kind: api.OpWrite, At: at, B: b})
		} else {
			r.begin(api.Op{Kind: api.OpRead, At: at, N: n})
		}
		for range 100 {
			for _, k := range []uint8{api.AcMaster, api.AcBus, api.AcSlave, api.AcBus, api.AcSlave, api.AcBus, api.AcMaster, api.AcTick} {
				if k == api.AcBus && d.next(40) == 0 {
					k = api.AcLost
				}
				r.step(k)
			}
		}
		got, _, e := r.s.Done()
		now, _ := r.s.Mem().Read(api.App, 0, 0, 64)
		end := int(at) + n
		if !bytes.Equal(now[:at], was[:at]) || !bytes.Equal(now[end:], was[end:]) {
			t.Fatal("other bytes were changed", at, n)
		}
		for i, x := range now[at:end] {
			if x != was[int(at)+i] && (!writes || x != b[i]) {
				t.Fatal("neither what it was, nor what it should be", i)
			}
		}
		if e != api.OK {
			continue
		}
		good++
		if writes && !bytes.Equal(now[at:end], b) || !writes && !bytes.Equal(got, was[at:end]) {
			t.Fatal("with OK", at, n, got)
		}
	}
	if good < 200 || good == 600 {
		t.Error("frames were lost too often, or never", good)
	}
}

// TestP21_4LateAnswersCountForNoOther lets answers come late, but those to Synch.
func TestP21_4LateAnswersCountForNoOther(t *testing.T) {
	r := on(t, 0)
	r.app(0, 1, 2, 3, 4, 5, 6, 7, 8, 9)
	r.begin(api.Op{Kind: api.OpRead, N: 9})
	r.step(api.AcMaster, api.AcBus, api.AcSlave, api.AcSlave, api.AcTick, api.AcTick, api.AcTick)
	r.step(api.AcMaster, api.AcBus, api.AcBus)
	r.s.Rounds(9, draw)
	r.done(0, api.OK, 1, 2, 3, 4, 5, 6, 7, 8, 9)
}

func TestT2Measured(t *testing.T) {
	r := on(t, 13)
	r.op(api.Op{Kind: api.OpOpen, Res: api.DaqRes})
	r.op(api.Op{Kind: api.OpLay, Lists: []api.List{list(false, 0, 10, 3)}})
	d := dice(5)
	next := byte(0)
	for range 200 {
		next++
		r.app(10, next, next, next)
		r.event(0)
		if d.next(3) == 0 {
			r.s.Rounds(int(1+d.next(4)), draw)
		}
	}
	r.s.Rounds(40, draw)
	last, lost, n := byte(0), 0, 0
	for {
		s, ok := r.s.Sample()
		if !ok {
			break
		}
		n++
		if len(s.B) != 3 || !bytes.Equal(s.B[0], s.B[1]) || !bytes.Equal(s.B[1], s.B[2]) || s.B[0][0] <= last {
			t.Fatal("not whole, or not in order", s)
		}
		if s.Lost != (s.B[0][0] != last+1) {
			t.Fatal("what is lost is told", s, last)
		}
		if s.Lost {
			lost++
		}
		last = s.B[0][0]
	}
	if n < 20 || lost == 0 {
		t.Error(n, lost)
	}
}

func TestT3Locked(t *testing.T) {
	d := dice(3)
	for range 40 {
		r := fresh(t, 13)
		r.app(0, 9, 8, 7)
		was, _ := r.s.Mem().Read(api.App, 0, 0, 64)
		for range 300 {
			f := api.Frame{Id: in, Len: 8}
			for i := range f.B {
				f.B[i] = byte(d.next(7))
			}
			f.B[0] = byte(193 + d.next(26))
			if f.B[0] == 192+api.Unlock {
				f.B[0] = byte(d.next(9))
			}
			r.s.Step(api.Act{Kind: api.AcPut, F: f})
			r.event(int(d.next(2)))
			r.s.Rounds(2, draw)
		}
		now, _ := r.s.Mem().Read(api.App, 0, 0, 64)
		if _, ok := r.s.Sample(); ok || r.s.Locked() != 13 || !bytes.Equal(was, now) {
			t.Fatal(r.s.Locked(), now)
		}
	}
	r := on(t, 13)
	r.put(in, 192+api.Seed, 0, api.CalPag)
	r.step(api.AcSlave)
	r.s.Rounds(1, draw)
	r.put(in, append([]byte{192 + api.Unlock, 3}, lock.Key(draw, api.CalPag)...)...)
	r.step(api.AcSlave)
	if r.s.Locked() != 12 {
		t.Error("a whole key unlocks", r.s.Locked())
	}
}

func TestT4Set(t *testing.T) {
	r := on(t, 13)
	r.op(api.Op{Kind: api.OpOpen, Res: api.DaqRes})
	r.begin(api.Op{Kind: api.OpLay, Lists: []api.List{list(true, 1, 8, 3)}})
	r.s.Rounds(70, draw)
	r.done(92, api.ErrSlave)
	r.op(api.Op{Kind: api.OpOpen, Res: api.StmRes})
	r.op(api.Op{Kind: api.OpLay, Lists: []api.List{list(true, 1, 8, 3)}})
	d := dice(21)
	set, times := byte(0), 0
	for i := range byte(200) {
		r.s.Step(api.Act{Kind: api.AcPush, L: [][]byte{{i + 1}, {i + 1}, {i + 1}}})
		for range d.next(9) {
			r.step(api.AcMaster, api.AcBus, api.AcSlave)
			r.ram(8, set, set, set)
		}
		r.event(1)
		b, _ := r.s.Mem().Read(api.App, 0, 8, 3)
		if b[0] != b[1] || b[1] != b[2] || b[0] < set {
			t.Fatal("not at once", i, b)
		}
		if b[0] > set {
			set = b[0]
			times++
		}
	}
	if times < 50 {
		t.Error("hardly ever set", times)
	}
}

// TestT4Part loses a part: what came of the others is never set alone.
func TestT4Part(t *testing.T) {
	for lost := range 3 {
		r := on(t, 0)
		r.op(api.Op{Kind: api.OpLay, Lists: []api.List{list(true, 1, 8, 3)}})
		if e := r.s.Step(api.Act{Kind: api.AcPush, L: [][]byte{{1}, {2}, {3}}}); e != api.OK {
			t.Fatal(e)
		}
		for i := range 3 {
			turn := api.AcBus
			if i == lost {
				turn = api.AcLost
			}
			r.step(api.AcMaster, turn, api.AcSlave)
			r.event(1)
		}
		r.ram(8, 0, 0, 0)
	}
}
