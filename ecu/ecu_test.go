package ecu_test

import (
	"bytes"
	"reflect"
	"testing"

	"calliper/api"
	"calliper/cmd"
	"calliper/ecu"
	"calliper/lock"
)

const (
	in  = 100
	out = 200
)

var draw = []byte{3, 1, 4}

// conf is 16 plain bytes, a segment of 4 bytes and 2 pages, 2 events and 4 packets.
func conf(res uint8) api.Conf {
	return api.Conf{
		Map: api.Map{Ram: 16, Segs: []api.Seg{{Len: 4, Pages: 2}}, Flash: [][]byte{{1, 2, 3, 4}}},
		Res: res, Events: 2, Queue: 4, In: in, Out: out,
	}
}

// rig is an Ecu that frames come to.
type rig struct {
	t *testing.T
	e *ecu.Ecu
}

func fresh(t *testing.T, res uint8) rig {
	t.Helper()
	e, err := ecu.New(conf(res))
	if err != api.OK || e == nil {
		t.Fatal(err)
	}
	return rig{t, e}
}

// on is one that is connected.
func on(t *testing.T, res uint8) rig {
	t.Helper()
	r := fresh(t, res)
	r.ask([]byte{255, 13, 8, 8}, api.Connect, 0)
	return r
}

// take takes a frame of these bytes.
func (r rig) take(b ...byte) {
	r.t.Helper()
	f := api.Frame{Id: in, Len: len(b)}
	copy(f.B[:], b)
	if !r.e.Take(f, draw) {
		r.t.Error("not taken", f)
	}
}

// sends wants a frame of these bytes.
func (r rig) sends(want ...byte) {
	r.t.Helper()
	f, ok := r.e.Send()
	if !ok || f.Id != out || f.Ext || !bytes.Equal(f.B[:f.Len], want) {
		r.t.Error("sent", f, ok, "not", want)
	}
}

// quiet wants that nothing is to be sent.
func (r rig) quiet() {
	r.t.Helper()
	if f, ok := r.e.Send(); ok || f != (api.Frame{}) {
		r.t.Error("sent", f)
	}
}

// ask gives a command, and wants one answer.
func (r rig) ask(want []byte, code uint8, b ...byte) {
	r.t.Helper()
	r.take(append([]byte{code + 192}, b...)...)
	r.sends(want...)
}

// ok gives a command, and wants that it is done.
func (r rig) ok(code uint8, b ...byte) {
	r.t.Helper()
	r.take(append([]byte{code + 192}, b...)...)
	if f, sent := r.e.Send(); !sent || f.B[0] != 255 {
		r.t.Error(code, b, f, sent)
	}
}

// no gives a command, and wants an error.
func (r rig) no(want api.Errno, code uint8, b ...byte) {
	r.t.Helper()
	r.ask([]byte{254, byte(want)}, code, b...)
}

func (r rig) unlock(res uint8) {
	r.t.Helper()
	r.ok(api.Seed, 0, res)
	r.ok(api.Unlock, append([]byte{3}, lock.Key(draw, res)...)...)
	if r.e.Locked()&res != 0 {
		r.t.Error("locked", res)
	}
}

// lay lays lists of as many tables, each of one entry: the byte at 10 times the list's number, and the table's.
func (r rig) lay(tables ...uint8) {
	r.t.Helper()
	r.ok(api.FreeDaq)
	r.ok(api.AllocDaq, byte(len(tables)))
	for i, n := range tables {
		r.ok(api.AllocOdt, byte(i), n)
	}
	for i, n := range tables {
		for k := range n {
			r.ok(api.AllocEntry, byte(i), k, 1)
		}
	}
	for i, n := range tables {
		for k := range n {
			r.ok(api.SetPtr, byte(i), k, 0)
			r.ok(api.WriteDaq, 1, 0, 0, 0, 0, byte(i)*10+k)
		}
	}
}

func (r rig) app(at uint32, b ...byte) {
	r.t.Helper()
	if e := r.e.App(0, at, b); e != api.OK {
		r.t.Error(e)
	}
}

func (r rig) ram(at uint32, want ...byte) {
	r.t.Helper()
	if got, e := r.e.Mem().Read(api.App, 0, at, len(want)); e != api.OK || !bytes.Equal(got, want) {
		r.t.Error(got, e, "not", want)
	}
}

func TestP15_1New(t *testing.T) {
	for i, x := range []struct {
		change func(c *api.Conf)
		e      api.Errno
	}{
		{func(c *api.Conf) {}, api.OK},
		{func(c *api.Conf) { c.Map.Ram = -1 }, api.ErrArg},
		{func(c *api.Conf) { c.Map.Flash = make([][]byte, 2) }, api.ErrArg},
		{func(c *api.Conf) { c.Events = 0 }, api.ErrArg},
		{func(c *api.Conf) { c.Events = 5 }, api.ErrArg},
		{func(c *api.Conf) { c.Queue = 0 }, api.ErrArg},
		{func(c *api.Conf) { c.Queue = 65 }, api.ErrArg},
		{func(c *api.Conf) { c.In = 2047 }, api.OK},
		{func(c *api.Conf) { c.In = 2048 }, api.ErrArg},
		{func(c *api.Conf) { c.Out = 2047 }, api.OK},
		{func(c *api.Conf) { c.Out = 2048 }, api.ErrArg},
		{func(c *api.Conf) { c.Out = c.In }, api.ErrArg},
		{func(c *api.Conf) { c.Res = 255 }, api.OK},
	} {
		c := conf(13)
		x.change(&c)
		if e, err := ecu.New(c); err != x.e || (e != nil) != (err == api.OK) {
			t.Error(i, err)
		}
	}
}

func TestP15_1AtFirst(t *testing.T) {
	r := fresh(t, 255)
	if r.e.On() || r.e.Locked() != 13 || len(r.e.Lists()) != 0 {
		t.Error(r.e.On(), r.e.Locked())
	}
	r.quiet()
	r.ram(0, make([]byte, 16)...)
	if b, e := r.e.Mem().Read(api.Xcp, 1, 0, 4); e != api.OK || !bytes.Equal(b, []byte{1, 2, 3, 4}) {
		t.Error(b, e)
	}
}

func TestP15_1MemAndApp(t *testing.T) {
	r := on(t, 0)
	r.app(3, 7, 8)
	r.ram(2, 0, 7, 8, 0)
	m := r.e.Mem()
	m.Write(api.App, 0, 3, []byte{99})
	r.ram(3, 7)
	if e := r.e.App(0, 15, []byte{1, 2}); e != api.ErrAddr {
		t.Error(e)
	}
	if e := r.e.App(1, 0, []byte{1}); e != api.ErrWrite {
		t.Error(e)
	}
	r.ok(api.SetPage, 2, 0, 1)
	if e := r.e.App(1, 0, []byte{1}); e != api.ErrWrite {
		t.Error("the application sees its own page", e)
	}
	r.ok(api.SetPage, 1, 0, 1)
	if e := r.e.App(1, 0, []byte{1}); e != api.OK {
		t.Error(e)
	}
}

func TestP15_1Lists(t *testing.T) {
	r := on(t, 0)
	r.lay(2, 1)
	want := []api.List{
		{First: 0, Tables: [][]api.Entry{{{Size: 1, At: 0}}, {{Size: 1, At: 1}}}, Pre: 1},
		{First: 2, Tables: [][]api.Entry{{{Size: 1, At: 10}}}, Pre: 1},
	}
	if got := r.e.Lists(); !reflect.DeepEqual(got, want) {
		t.Error(got)
	}
	r.e.Lists()[0].Tables[0][0].Size = 9
	if got := r.e.Lists(); !reflect.DeepEqual(got, want) {
		t.Error("shared", got)
	}
}

func TestP15_2WhichFrames(t *testing.T) {
	r := fresh(t, 0)
	for i, x := range []struct {
		f    api.Frame
		want bool
	}{
		{api.Frame{Id: in, Len: 1, B: [8]byte{195}}, true},
		{api.Frame{Id: in, Len: 1, B: [8]byte{3}}, true},
		{api.Frame{Id: in, Len: 8, B: [8]byte{255, 1, 2, 3, 4, 5, 6, 7}}, true},
		{api.Frame{Id: in, Len: 1}, true},
		{api.Frame{Id: in}, false},
		{api.Frame{Id: in, Ext: true, Len: 1, B: [8]byte{193}}, false},
		{api.Frame{Id: out, Len: 1, B: [8]byte{193}}, false},
		{api.Frame{Id: in, Len: 9, B: [8]byte{193}}, false},
		{api.Frame{Id: in, Len: -1}, false},
		{api.Frame{Id: in, Len: 2, B: [8]byte{193, 0, 1}}, false},
	} {
		if got := r.e.Take(x.f, draw); got != x.want {
			t.Error(i, got)
		}
		if r.quiet(); r.e.On() {
			t.Error(i, "on")
		}
	}
}

func TestP15_2Set(t *testing.T) {
	r := fresh(t, 8)
	r.take(0, 5)
	r.ask([]byte{255, 13, 8, 8}, api.Connect, 0)
	r.unlock(api.StmRes)
	r.lay(2, 1)
	r.ok(api.SetMode, 0, 1, 1, 1, 0)
	r.ok(api.StartStop, 0, 1)
	r.take(0, 5)
	r.take(2, 9)
	r.take(191, 9)
	r.take(1, 6, 7)
	r.quiet()
	r.ram(0, 0, 0)
	r.e.Event(0)
	r.ram(0, 0, 0)
	r.e.Event(1)
	r.ram(0, 5, 6, 0)
	r.app(0, 1, 1)
	r.e.Event(1)
	r.ram(0, 1, 1)
	r.quiet()
}

func TestP15_2SetIsTakenWhileAnswersWait(t *testing.T) {
	r := on(t, 0)
	r.lay(1)
	r.ok(api.SetMode, 0, 1, 0, 1, 0)
	r.ok(api.StartStop, 0, 1)
	r.take(195)
	r.take(0, 5)
	r.e.Event(0)
	r.ram(0, 5)
	r.sends(255, 0)
}

func TestP15_3CommandsThatAreNone(t *testing.T) {
	r := fresh(t, 0)
	r.take(192)
	r.take(255, 1)
	r.take(193)
	r.quiet()
	r.ask([]byte{255, 13, 8, 8}, api.Connect, 0, 1, 2)
	r.no(api.ErrArg, 0)
	r.no(api.ErrArg, 27, 1)
	r.no(api.ErrArg, 63)
	r.no(api.ErrShort, api.SetMta, 1, 0, 0)
	r.no(api.ErrShort, api.Download, 2, 1)
	r.no(api.ErrShort, api.AllocDaq)
}

func TestP15_3WhileAnswersWait(t *testing.T) {
	r := on(t, 0)
	r.take(198, 16)
	r.take(194)
	r.take(192)
	r.take(195)
	r.take(193, 0)
	r.sends(255, 0, 0, 0, 0, 0, 0, 0)
	r.take(212, 1)
	r.sends(255, 0, 0, 0, 0, 0, 0, 0)
	r.take(211, 1)
	r.sends(255, 0, 0)
	r.quiet()
	if !r.e.On() || len(r.e.Lists()) != 0 {
		t.Error("a command was done")
	}
	r.ask([]byte{255, 0}, api.Status)
}

func TestP15_3OnMemory(t *testing.T) {
	r := on(t, 13)
	r.ask([]byte{255, 13}, api.Status)
	r.no(api.ErrSynch, api.Synch)
	r.no(api.ErrLocked, api.Download, 1, 9)
	r.unlock(api.CalPag)
	r.ok(api.SetMta, 0, 0, 0, 0, 4)
	r.ok(api.Download, 2, 7, 9)
	r.ask([]byte{255, 7, 9}, api.ShortUp, 2, 0, 0, 0, 0, 4)
	r.ask([]byte{255, 12}, api.Status)
	r.no(api.ErrAddr, api.Upload, 100)
	r.take(200, 8, 1, 2, 3, 4, 5, 6)
	r.quiet()
	r.ask([]byte{255}, api.DownNext, 2, 7, 8)
	r.ram(3, 0, 7, 9, 1, 2, 3, 4, 5, 6, 7, 8, 0)
}

func TestP15_3BlocksStayOpenBehindListCommands(t *testing.T) {
	r := on(t, 0)
	r.take(200, 8, 1, 2, 3, 4, 5, 6)
	r.ok(api.FreeDaq)
	r.no(api.ErrArg, 63)
	r.ask([]byte{255}, api.DownNext, 2, 7, 8)
}

func TestP15_3Off(t *testing.T) {
	r := fresh(t, 0)
	for code := api.Disconnect; code <= api.StartAll; code++ {
		r.take(code+192, 0, 0, 0, 0, 0, 0, 0)
		r.quiet()
	}
}

func TestP15_3ConnectAndDisconnectEndAll(t *testing.T) {
	for _, code := range []byte{api.Connect, api.Disconnect} {
		r := on(t, 5)
		r.unlock(api.DaqRes)
		r.lay(2, 1, 1)
		r.ok(api.SetMode, 1, 1, 0, 1, 0)
		r.ok(api.SetMode, 2, 0, 1, 1, 0)
		r.ok(api.StartStop, 0, 1)
		r.ok(api.StartStop, 1, 1)
		r.ok(api.StartStop, 2, 2)
		r.take(2, 77)
		r.e.Event(0)
		r.e.Event(0)
		r.e.Event(0)
		r.take(code+192, 0)
		for i, l := range r.e.Lists() {
			if l.On || l.Chosen {
				t.Error(code, i, l)
			}
		}
		if f, ok := r.e.Send(); !ok || f.B[0] != 255 {
			t.Error(code, f)
		}
		if r.quiet(); r.e.Locked() != 5 || r.e.On() != (code == api.Connect) {
			t.Error(code, r.e.Locked(), r.e.On())
		}
		r.ask([]byte{255, 13, 8, 8}, api.Connect, 0)
		r.unlock(api.DaqRes)
		r.ok(api.StartStop, 0, 1)
		r.ok(api.StartStop, 1, 1)
		r.app(10, 5)
		r.e.Event(0)
		r.ram(10, 5)
		r.sends(0, 0)
		r.sends(1, 0)
		r.quiet()
	}
}

func TestP15_3PartsAreGoneBehindConnect(t *testing.T) {
	r := on(t, 0)
	r.lay(1)
	r.ok(api.SetMode, 0, 1, 0, 1, 0)
	r.ok(api.StartStop, 0, 1)
	r.take(0, 77)
	r.ok(api.Connect, 0)
	r.ok(api.StartStop, 0, 1)
	r.e.Event(0)
	r.ram(0, 0)
	r.take(0, 77)
	r.e.Event(0)
	r.ram(0, 77)
}

func TestP15_3DisconnectWhileOff(t *testing.T) {
	r := on(t, 0)
	r.ok(api.Disconnect)
	r.take(194)
	r.quiet()
}

func TestP15_3DaqLocked(t *testing.T) {
	r := on(t, 4)
	for code := api.FreeDaq; code <= api.StartAll; code++ {
		r.no(api.ErrLocked, code, 0, 0, 0, 0, 0, 0, 0)
	}
	r.no(api.ErrShort, api.SetMode)
	r.unlock(api.DaqRes)
	r.ok(api.FreeDaq)
}

func TestP15_3StimLocked(t *testing.T) {
	r := on(t, 8)
	r.lay(1, 1)
	r.ok(api.SetMode, 1, 1, 0, 1, 0)
	r.no(api.ErrLocked, api.StartStop, 1, 1)
	r.no(api.ErrLocked, api.StartStop, 1, 2)
	r.ask([]byte{255, 1}, api.StartStop, 1, 0)
	r.no(api.ErrArg, api.StartStop, 1, 3)
	r.no(api.ErrArg, api.StartStop, 2, 1)
	r.ask([]byte{255, 0}, api.StartStop, 0, 1)
	r.ok(api.StartAll, 1)
	r.ok(api.StartStop, 0, 0)
	r.unlock(api.StmRes)
	r.ask([]byte{255, 1}, api.StartStop, 1, 2)
	r.ok(api.StartAll, 1)
	if l := r.e.Lists(); !l[1].On || l[0].On {
		t.Error(l)
	}
}

func TestP15_3StimLockedStartAll(t *testing.T) {
	r := on(t, 8)
	r.lay(1, 1)
	r.ok(api.StartStop, 0, 2)
	r.ok(api.StartStop, 1, 2)
	r.ok(api.SetMode, 1, 1, 0, 1, 0)
	r.no(api.ErrLocked, api.StartAll, 1)
	if l := r.e.Lists(); l[0].On || l[1].On || !l[0].Chosen || !l[1].Chosen {
		t.Error(l)
	}
	r.no(api.ErrArg, api.StartAll, 3)
	r.ok(api.StartAll, 2)
	r.ok(api.StartStop, 0, 2)
	r.ok(api.StartAll, 1)
	if l := r.e.Lists(); !l[0].On || l[1].On {
		t.Error(l)
	}
	r.ok(api.StartAll, 0)
}

func TestP15_3FreeDaqLetsGoOfPacketsAndParts(t *testing.T) {
	r := on(t, 0)
	r.lay(1, 1)
	r.ok(api.SetMode, 0, 1, 0, 1, 0)
	r.ok(api.StartAll, 0)
	r.ok(api.StartStop, 0, 1)
	r.ok(api.StartStop, 1, 1)
	r.e.Event(0)
	r.e.Event(0)
	r.take(0, 77)
	r.ask([]byte{254, byte(api.ErrBusy)}, api.FreeDaq)
	r.ok(api.StartAll, 0)
	r.ok(api.FreeDaq)
	r.quiet()
	r.lay(1, 1)
	r.ok(api.SetMode, 0, 1, 0, 1, 0)
	r.ok(api.StartStop, 0, 1)
	r.e.Event(0)
	r.ram(0, 0)
}

func TestP15_3OtherListCommandsClearNothing(t *testing.T) {
	r := on(t, 0)
	r.lay(1, 1, 1)
	r.ok(api.SetMode, 0, 1, 1, 1, 0)
	r.ok(api.StartStop, 0, 1)
	r.ok(api.StartStop, 1, 1)
	r.take(0, 77)
	r.e.Event(0)
	r.e.Event(0)
	ask := func(code uint8, b ...byte) {
		t.Helper()
		r.take(append([]byte{code + 192}, b...)...)
		if f, _ := r.e.Send(); f.B[0] != 255 {
			t.Error(code, f)
		}
	}
	ask(api.SetPtr, 2, 0, 0)
	ask(api.WriteDaq, 1, 0, 0, 0, 0, 20)
	ask(api.SetMode, 2, 0, 0, 1, 0)
	ask(api.StartStop, 1, 0)
	ask(api.StartStop, 2, 2)
	ask(api.StartAll, 1)
	ask(api.StartStop, 2, 0)
	r.e.Event(1)
	r.ram(0, 77)
	r.sends(1, 0)
	ask(api.StartAll, 0)
	ask(api.FreeDaq)
	r.quiet()
}

func TestP15_3LostAheadOfFreeDaqIsNotTold(t *testing.T) {
	r := on(t, 0)
	r.lay(1)
	r.ok(api.StartStop, 0, 1)
	for range 5 {
		r.e.Event(0)
	}
	r.ok(api.StartStop, 0, 0)
	r.ok(api.FreeDaq)
	r.lay(1)
	r.ok(api.StartStop, 0, 1)
	r.e.Event(0)
	r.sends(0, 0)
	r.quiet()
}

func TestP15_3StartCountsAnew(t *testing.T) {
	r := on(t, 0)
	r.lay(1, 1, 1)
	for i := range byte(3) {
		r.ok(api.SetMode, i, 0, 0, 3, 0)
		r.ok(api.StartStop, i, 1)
	}
	r.e.Event(0)
	r.e.Event(0)
	r.ok(api.StartStop, 0, 1)
	r.ok(api.StartStop, 1, 2)
	r.ok(api.StartStop, 2, 2)
	r.e.Event(0)
	r.sends(1, 0)
	r.sends(2, 0)
	r.quiet()
	r.e.Event(0)
	r.ok(api.StartAll, 1)
	r.e.Event(0)
	r.sends(0, 0)
	r.e.Event(0)
	r.quiet()
	r.e.Event(0)
	r.sends(1, 0)
	r.sends(2, 0)
}

func TestP15_3ListErrors(t *testing.T) {
	r := on(t, 0)
	r.no(api.ErrSeq, api.AllocOdt, 0, 1)
	r.no(api.ErrFull, api.AllocDaq, 5)
	r.no(api.ErrSeq, api.WriteDaq, 1, 0, 0, 0, 0, 0)
	r.no(api.ErrArg, api.SetPtr, 0, 0, 0)
	r.ask([]byte{255}, api.AllocDaq, 1)
	r.no(api.ErrSeq, api.StartStop, 0, 1)
}

func TestP15_4Measured(t *testing.T) {
	r := on(t, 0)
	r.lay(2, 1)
	r.ok(api.SetMode, 1, 0, 0, 1, 9)
	r.ok(api.StartStop, 0, 1)
	r.ok(api.StartStop, 1, 1)
	r.app(0, 5, 6)
	r.app(10, 7)
	r.e.Event(0)
	r.app(0, 8, 9)
	r.e.Event(1)
	r.e.Event(255)
	r.take(195)
	r.sends(255, 0)
	r.sends(2, 7)
	r.sends(0, 5)
	r.sends(1, 6)
	r.quiet()
}

func TestP15_4LostIsTold(t *testing.T) {
	r := on(t, 0)
	r.lay(2)
	r.ok(api.StartStop, 0, 1)
	for i := range byte(4) {
		r.app(0, i, i)
		r.e.Event(0)
	}
	for i := range byte(2) {
		r.sends(0, i)
		r.sends(1, i)
	}
	r.quiet()
	r.app(0, 4, 5)
	r.e.Event(0)
	r.sends(64, 4)
	r.sends(1, 5)
}

func TestP15_4SetAheadOfMeasuredByPriority(t *testing.T) {
	for _, high := range []byte{0, 1} {
		r := on(t, 0)
		r.ok(api.FreeDaq)
		r.ok(api.AllocDaq, 2)
		for i := range byte(2) {
			r.ok(api.AllocOdt, i, 1)
		}
		for i := range byte(2) {
			r.ok(api.AllocEntry, i, 0, 1)
		}
		for i := range byte(2) {
			r.ok(api.SetPtr, i, 0, 0)
			r.ok(api.WriteDaq, 1, 0, 0, 0, 0, 3)
			r.ok(api.SetMode, i, i, 0, 1, high*i+1-high)
			r.ok(api.StartStop, i, 1)
		}
		r.take(1, 50)
		r.e.Event(0)
		r.ram(3, 50)
		r.sends(0, 50*high)
	}
}

func TestP15_4NilEcu(t *testing.T) {
	var e *ecu.Ecu
	e.Event(0)
	f, ok := e.Send()
	if ok || f != (api.Frame{}) || e.Take(api.Frame{Len: 1, B: [8]byte{193}}, nil) || e.App(0, 0, nil) != api.ErrNone || e.Mem() != nil || len(e.Lists()) != 0 || e.Locked() != 0 || e.On() {
		t.Error("a nil Ecu is there")
	}
}

func TestP15_5NothingIsSetWhileLocked(t *testing.T) {
	r := on(t, 8)
	r.unlock(api.StmRes)
	r.lay(1)
	r.ok(api.SetMode, 0, 1, 0, 1, 0)
	r.ok(api.StartStop, 0, 1)
	r.take(0, 5)
	r.ok(api.Disconnect)
	r.take(0, 6)
	r.e.Event(0)
	r.ok(api.Connect, 0)
	r.take(0, 7)
	r.e.Event(0)
	r.no(api.ErrLocked, api.StartStop, 0, 1)
	r.no(api.ErrLocked, api.StartStop, 0, 2)
	r.ok(api.StartAll, 1)
	r.take(0, 8)
	r.e.Event(0)
	r.ram(0, 0)
}

// TestP15_5Locked lets many frames come to an Ecu that is locked, but none with a whole key.
func TestP15_5WhateverFramesCome(t *testing.T) {
	r := on(t, 13)
	r.app(0, 1, 2, 3, 4)
	was, _ := r.e.Mem().Read(api.App, 0, 0, 16)
	x := uint32(5)
	next := func() byte {
		x ^= x << 13
		x ^= x >> 17
		x ^= x << 5
		return byte(x >> 3)
	}
	for range 20000 {
		code := 1 + next()%26
		if code == api.Unlock {
			continue
		}
		small, great, n, _ := cmd.Shape(code)
		b := []byte{code + 192}
		for range small {
			b = append(b, next()%4)
		}
		if great {
			b = append(b, 0, 0, 0, next()%8)
		}
		for range min(n, 8-len(b)) {
			b = append(b, next())
		}
		if next()%4 == 0 {
			b[0] = next() % 16
		}
		r.take(b...)
		r.e.Event(next() % 2)
		for {
			f, ok := r.e.Send()
			if !ok {
				break
			}
			if f.B[0] < 192 {
				t.Fatal("measured", b, f)
			}
		}
	}
	if now, _ := r.e.Mem().Read(api.App, 0, 0, 16); !bytes.Equal(was, now) || r.e.Locked() != 13 {
		t.Error(now, r.e.Locked())
	}
	for _, who := range []uint8{api.App, api.Xcp} {
		if p, _ := r.e.Mem().Page(who, 0); p != 0 {
			t.Error(who, p)
		}
	}
}

func TestP15_5BehindDisconnect(t *testing.T) {
	r := on(t, 13)
	for _, res := range []uint8{1, 4, 8} {
		r.unlock(res)
	}
	r.lay(1)
	r.ok(api.StartStop, 0, 1)
	r.take(194)
	r.e.Event(0)
	r.sends(255)
	if r.quiet(); r.e.Locked() != 13 || r.e.On() || r.e.Lists()[0].On {
		t.Error(r.e.Locked(), r.e.Lists())
	}
}
