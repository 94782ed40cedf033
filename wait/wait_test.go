package wait_test

import (
	"bytes"
	"math"
	"testing"

	"calliper/api"
	"calliper/wait"
)

var (
	status  = api.Cmd{Code: api.Status}
	synch   = api.Cmd{Code: api.Synch}
	upload  = api.Cmd{Code: api.Upload, A: [5]uint8{4}}
	down    = api.Cmd{Code: api.Download, A: [5]uint8{2}, B: []byte{7, 8}}
	synched = api.Rep{Kind: api.Neg, Code: 100}
)

func pos(b ...byte) api.Rep { return api.Rep{Kind: api.Pos, B: b} }
func neg(code uint8) api.Rep {
	return api.Rep{Kind: api.Neg, Code: code}
}

func fresh(t *testing.T, ticks, tries int, l ...api.Cmd) *wait.Wait {
	t.Helper()
	w, e := wait.New(ticks, tries)
	if e != api.OK || w == nil {
		t.Fatal(e)
	}
	if len(l) > 0 {
		if e := w.Ask(l); e != api.OK {
			t.Fatal(e)
		}
	}
	return w
}

// sent wants commands that are to be sent, each once.
func sent(t *testing.T, w *wait.Wait, want api.Cmd) {
	t.Helper()
	c, ok := w.Next()
	if !ok || c.Code != want.Code || c.A != want.A || c.W != want.W || !bytes.Equal(c.B, want.B) {
		t.Error(c, ok, "not", want)
	}
	nothing(t, w)
}

func nothing(t *testing.T, w *wait.Wait) {
	t.Helper()
	if c, ok := w.Next(); ok || c.Code != 0 || len(c.B) != 0 {
		t.Error("to be sent", c)
	}
}

func ticks(w *wait.Wait, n int) {
	for range n {
		w.Tick()
	}
}

func pending(t *testing.T, w *wait.Wait) {
	t.Helper()
	if l, code, e := w.Done(); e != api.ErrWait || len(l) != 0 || code != 0 {
		t.Error(l, code, e)
	}
}

// done wants it done, with these answers.
func done(t *testing.T, w *wait.Wait, want ...[]byte) {
	t.Helper()
	l, code, e := w.Done()
	if e != api.OK || code != 0 || len(l) != len(want) {
		t.Error(l, code, e, "not", want)
		return
	}
	for i := range l {
		if !bytes.Equal(l[i], want[i]) {
			t.Error(l, "not", want)
		}
	}
	nothing(t, w)
}

func failed(t *testing.T, w *wait.Wait, want api.Errno, wantCode uint8) {
	t.Helper()
	if l, code, e := w.Done(); e != want || code != wantCode || len(l) != 0 {
		t.Error(l, code, e, "not", want, wantCode)
	}
	nothing(t, w)
}

func TestP16_1New(t *testing.T) {
	for i, x := range []struct {
		ticks, tries int
		ok           bool
	}{
		{1, 1, true}, {100, 5, true}, {0, 1, false}, {101, 1, false}, {1, 0, false}, {1, 6, false}, {-1, 1, false}, {1, -1, false},
		{math.MaxInt, 1, false}, {1, math.MinInt, false},
	} {
		w, e := wait.New(x.ticks, x.tries)
		if (e == api.OK) != x.ok || (w != nil) != x.ok || !x.ok && e != api.ErrArg {
			t.Error(i, e)
		}
	}
	w := fresh(t, 2, 2)
	nothing(t, w)
	w.Tick()
	w.Hear(pos())
	failed(t, w, api.ErrNone, 0)
}

func TestP16_1Ask(t *testing.T) {
	w := fresh(t, 2, 2)
	for i, l := range [][]api.Cmd{nil, {}, make([]api.Cmd, 65), {{}}, {status, {Code: 27}}, {{Code: api.Status, W: 1}}, {{Code: api.Download, A: [5]uint8{2}, B: []byte{1}}}} {
		if e := w.Ask(l); e != api.ErrArg {
			t.Error(i, e)
		}
		failed(t, w, api.ErrNone, 0)
	}
	var l []api.Cmd
	for range 64 {
		l = append(l, status)
	}
	if e := w.Ask(append(l, status)); e != api.ErrArg {
		t.Error(e)
	}
	if e := w.Ask(l); e != api.OK {
		t.Error(e)
	}
	if e := w.Ask(l[:1]); e != api.ErrWait {
		t.Error(e)
	}
	if e := w.Ask(nil); e != api.ErrWait {
		t.Error(e)
	}
	sent(t, w, status)
	if e := w.Ask(l[:1]); e != api.ErrWait {
		t.Error(e)
	}
}

func TestP16_1AskAgain(t *testing.T) {
	w := fresh(t, 1, 1, status)
	sent(t, w, status)
	w.Hear(neg(33))
	if e := w.Ask(nil); e != api.ErrArg {
		t.Error(e)
	}
	failed(t, w, api.ErrSlave, 33)
	for range 3 {
		if e := w.Ask([]api.Cmd{upload}); e != api.OK {
			t.Error(e)
		}
		pending(t, w)
		sent(t, w, upload)
		w.Hear(pos(1))
		done(t, w, []byte{1})
	}
	w.Ask([]api.Cmd{upload})
	sent(t, w, upload)
	w.Tick()
	failed(t, w, api.ErrTime, 0)
	if e := w.Ask([]api.Cmd{upload}); e != api.OK {
		t.Error(e)
	}
	sent(t, w, upload)
	w.Hear(pos(2))
	done(t, w, []byte{2})
}

func TestP16_1GroupIsNotKept(t *testing.T) {
	l := []api.Cmd{status, {Code: api.Download, A: [5]uint8{2}, B: []byte{7, 8}}}
	w := fresh(t, 1, 2)
	w.Ask(l)
	l[0], l[1].B[0] = upload, 99
	sent(t, w, status)
	w.Hear(pos())
	c, _ := w.Next()
	if !bytes.Equal(c.B, []byte{7, 8}) {
		t.Error(c)
	}
	c.B[0] = 98
	w.Tick()
	sent(t, w, synch)
	w.Hear(synched)
	sent(t, w, status)
	w.Hear(pos())
	sent(t, w, down)
}

func TestP16_2Next(t *testing.T) {
	w := fresh(t, 2, 1, down)
	sent(t, w, down)
	w.Tick()
	nothing(t, w)
	pending(t, w)
	w.Tick()
	failed(t, w, api.ErrTime, 0)
}

func TestP16_2TicksGoByOnlyWhileOut(t *testing.T) {
	w := fresh(t, 2, 1, status, upload)
	ticks(w, 9)
	sent(t, w, status)
	w.Tick()
	w.Hear(pos())
	ticks(w, 9)
	sent(t, w, upload)
	w.Tick()
	pending(t, w)
	w.Hear(pos(5))
	ticks(w, 9)
	done(t, w, nil, []byte{5})
}

func TestP16_3Hear(t *testing.T) {
	w := fresh(t, 2, 1, status, upload, down)
	w.Hear(pos(9))
	w.Hear(neg(9))
	sent(t, w, status)
	for _, r := range []api.Rep{{}, {Kind: api.Ev, Code: 1}, {Kind: api.Dto, B: []byte{1}}, {Kind: 9}, synched} {
		w.Hear(r)
		nothing(t, w)
		pending(t, w)
	}
	b := []byte{1, 2}
	w.Hear(pos(b...))
	b[0] = 99
	w.Hear(pos(77))
	w.Hear(neg(77))
	sent(t, w, upload)
	w.Hear(pos())
	sent(t, w, down)
	pending(t, w)
	w.Hear(pos(3, 4, 5))
	done(t, w, []byte{1, 2}, nil, []byte{3, 4, 5})
	w.Hear(neg(1))
	w.Hear(pos(1))
	done(t, w, []byte{1, 2}, nil, []byte{3, 4, 5})
}

func TestP16_3AnswersAreNewMemory(t *testing.T) {
	w := fresh(t, 2, 1, status)
	sent(t, w, status)
	b := []byte{1, 2}
	w.Hear(pos(b...))
	b[0] = 9
	w2 := fresh(t, 2, 1, status)
	sent(t, w2, status)
	w2.Hear(api.Rep{Kind: api.Pos, B: b})
	b[1] = 8
	done(t, w2, []byte{9, 2})
	l, _, _ := w2.Done()
	l[0][0] = 77
	done(t, w2, []byte{9, 2})
}

func TestP16_3Neg(t *testing.T) {
	for _, code := range []uint8{0, 1, 99, 101, 255} {
		w := fresh(t, 2, 3, status, upload)
		sent(t, w, status)
		w.Hear(pos(1))
		sent(t, w, upload)
		w.Hear(neg(code))
		failed(t, w, api.ErrSlave, code)
		ticks(w, 9)
		w.Hear(pos())
		failed(t, w, api.ErrSlave, code)
	}
}

func TestP16_3SynchOfTheGroup(t *testing.T) {
	w := fresh(t, 2, 3, synch, status)
	sent(t, w, synch)
	w.Hear(synched)
	failed(t, w, api.ErrSlave, 100)
	w = fresh(t, 2, 3, synch, status)
	sent(t, w, synch)
	w.Hear(pos(1))
	sent(t, w, status)
	w.Hear(synched)
	pending(t, w)
	w.Hear(pos(2))
	done(t, w, []byte{1}, []byte{2})
}

func TestP16_3SynchOfItsOwn(t *testing.T) {
	w := fresh(t, 1, 2, status, upload)
	sent(t, w, status)
	w.Hear(pos(1))
	sent(t, w, upload)
	w.Tick()
	w.Hear(pos(9))
	w.Hear(synched)
	sent(t, w, synch)
	w.Hear(pos(2))
	w.Hear(neg(33))
	w.Hear(api.Rep{Kind: api.Ev, Code: 100})
	nothing(t, w)
	pending(t, w)
	w.Hear(synched)
	sent(t, w, status)
	w.Hear(pos(3))
	sent(t, w, upload)
	w.Hear(pos(4))
	done(t, w, []byte{3}, []byte{4})
}

func TestP16_3OwnSynchInPlaceOfTheGroupsSynch(t *testing.T) {
	w := fresh(t, 1, 2, synch)
	sent(t, w, synch)
	w.Tick()
	sent(t, w, synch)
	w.Hear(synched)
	pending(t, w)
	sent(t, w, synch)
	w.Hear(synched)
	failed(t, w, api.ErrSlave, 100)
}

func TestP16_4Tick(t *testing.T) {
	w := fresh(t, 3, 3, status)
	sent(t, w, status)
	ticks(w, 2)
	pending(t, w)
	nothing(t, w)
	w.Tick()
	sent(t, w, synch)
	ticks(w, 2)
	nothing(t, w)
	w.Tick()
	sent(t, w, synch)
	w.Hear(synched)
	sent(t, w, status)
	ticks(w, 2)
	pending(t, w)
	w.Tick()
	failed(t, w, api.ErrTime, 0)
	ticks(w, 9)
	failed(t, w, api.ErrTime, 0)
}

func TestP16_4TriesAreTheGroups(t *testing.T) {
	w := fresh(t, 1, 2, status, upload)
	sent(t, w, status)
	w.Tick()
	sent(t, w, synch)
	w.Hear(synched)
	sent(t, w, status)
	w.Hear(pos())
	sent(t, w, upload)
	w.Tick()
	failed(t, w, api.ErrTime, 0)
}

func TestP16_4NilWait(t *testing.T) {
	var w *wait.Wait
	w.Tick()
	w.Hear(pos())
	nothing(t, w)
	failed(t, w, api.ErrNone, 0)
	if e := w.Ask([]api.Cmd{status}); e != api.ErrNone {
		t.Error(e)
	}
	if e := w.Ask(nil); e != api.ErrNone {
		t.Error(e)
	}
}

func TestP16_5Bounded(t *testing.T) {
	x := uint32(3)
	next := func(n uint32) uint32 {
		x ^= x << 13
		x ^= x >> 17
		x ^= x << 5
		return x % n
	}
	for range 2000 {
		nt, tries, n := int(1+next(4)), int(1+next(5)), int(1+next(6))
		var l []api.Cmd
		for range n {
			l = append(l, status)
		}
		w := fresh(t, nt, tries, l...)
		gone := 0
		for {
			if _, _, e := w.Done(); e != api.ErrWait {
				break
			}
			for {
				if _, ok := w.Next(); !ok {
					break
				}
				switch next(6) {
				case 0:
					w.Hear(pos())
				case 1:
					w.Hear(synched)
				}
			}
			w.Tick()
			gone++
		}
		if gone > 2*tries*n*nt {
			t.Fatal(nt, tries, n, gone)
		}
	}
}

// TestP16_5Late lets an answer come once its command was given up: it counts for none that was sent anew.
func TestP16_5WhatComesLate(t *testing.T) {
	w := fresh(t, 1, 3, upload, status)
	sent(t, w, upload)
	w.Tick()
	sent(t, w, synch)
	w.Hear(pos(66))
	w.Hear(synched)
	sent(t, w, upload)
	w.Hear(pos(1))
	sent(t, w, status)
	w.Hear(pos(2))
	done(t, w, []byte{1}, []byte{2})
}
