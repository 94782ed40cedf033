package box_test

import (
	"testing"

	"calliper/api"
	"calliper/box"
)

const all = 1<<32 - 1

func short(id uint32) api.Frame { return api.Frame{Id: id} }
func long(id uint32) api.Frame  { return api.Frame{Id: id, Ext: true} }

// marked is a frame that can be told from others of the same Id.
func marked(id uint32, mark byte) api.Frame {
	return api.Frame{Id: id, Len: 1, B: [8]byte{mark}}
}

func fresh(t *testing.T, filters ...api.Filter) *box.Box {
	t.Helper()
	b, e := box.New(filters)
	if e != api.OK || b == nil {
		t.Fatal(b, e)
	}
	return b
}

func TestP2_1New(t *testing.T) {
	for n := range 12 {
		b, e := box.New(make([]api.Filter, n))
		if n <= 8 && (e != api.OK || b == nil) || n > 8 && (e != api.ErrLong || b != nil) {
			t.Error(n, b, e)
		}
	}
	b := fresh(t)
	if _, ok := b.Next(); ok || b.Wait() != 0 || b.Taken() != 0 || b.Over() {
		t.Error("frames in a fresh box")
	}
	if f, ok := b.Recv(); ok || f != (api.Frame{}) {
		t.Error(f, ok)
	}
	b.Done()
	if b.Wait() != 0 {
		t.Error("Done of nothing")
	}
}

func TestP2_1NewKeepsNoFilterOfOthers(t *testing.T) {
	l := []api.Filter{{Mask: all, Id: 5}}
	b, _ := box.New(l)
	l[0].Id = 6
	if !b.Take(short(5)) || b.Take(short(6)) {
		t.Error("the filters were kept")
	}
}

func TestP2_1Send(t *testing.T) {
	b := fresh(t)
	for i, f := range []api.Frame{short(2048), long(1 << 29), {Len: 9}, {Len: -1}, {B: [8]byte{1}}} {
		if e := b.Send(f); e != api.ErrArg || b.Wait() != 0 {
			t.Error(i, e, b.Wait())
		}
	}
	for i := range 3 {
		if e := b.Send(short(7)); e != api.OK || b.Wait() != i+1 {
			t.Error(i, e, b.Wait())
		}
	}
	if e := b.Send(short(1)); e != api.ErrFull || b.Wait() != 3 {
		t.Error(e, b.Wait())
	}
	if e := b.Send(short(2048)); e != api.ErrArg {
		t.Error("ErrArg goes ahead of ErrFull", e)
	}
	if f, _ := b.Next(); f != short(7) {
		t.Error("a frame that was refused waits", f)
	}
	b.Done()
	if e := b.Send(short(1)); e != api.OK {
		t.Error(e)
	}
}

func TestP2_1NextAndDone(t *testing.T) {
	b := fresh(t)
	for _, f := range []api.Frame{short(5), long(786432), short(3)} {
		if e := b.Send(f); e != api.OK {
			t.Error(e)
		}
	}
	for i, want := range []api.Frame{short(3), long(786432), short(5)} {
		f, ok := b.Next()
		again, _ := b.Next()
		if f != want || !ok || again != f || b.Wait() != 3-i {
			t.Error(i, f, ok, again, b.Wait())
		}
		b.Done()
	}
	if f, ok := b.Next(); ok || f != (api.Frame{}) || b.Wait() != 0 {
		t.Error(f, ok)
	}
}

func TestP2_1SameRankInOrder(t *testing.T) {
	b := fresh(t)
	b.Send(marked(9, 1))
	b.Send(marked(4, 2))
	b.Send(marked(4, 3))
	if f, _ := b.Next(); f != marked(4, 2) {
		t.Error(f)
	}
	b.Done()
	b.Send(marked(4, 4))
	for i, want := range []api.Frame{marked(4, 3), marked(4, 4), marked(9, 1)} {
		if f, _ := b.Next(); f != want {
			t.Error(i, f)
		}
		b.Done()
	}
}

func TestP2_2LetIn(t *testing.T) {
	for i, x := range []struct {
		filters []api.Filter
		f       api.Frame
		want    bool
	}{
		{nil, short(5), false},
		{[]api.Filter{{Mask: 2047, Id: 5}}, short(5), true},
		{[]api.Filter{{Mask: 2047, Id: 5}}, short(6), false},
		{[]api.Filter{{Mask: 2047, Id: 5}}, long(5), false},
		{[]api.Filter{{Mask: 2047, Id: 5, Ext: true}}, long(5), true},
		{[]api.Filter{{Mask: 2047, Id: 5, Ext: true}}, short(5), false},
		{[]api.Filter{{}}, short(1234), true},
		{[]api.Filter{{}}, long(1234), false},
		{[]api.Filter{{Mask: 4, Id: 6}}, short(13), true},
		{[]api.Filter{{Mask: 4, Id: 6}}, short(11), false},
		{[]api.Filter{{Mask: 4, Id: 2}}, short(11), true},
		{[]api.Filter{{Mask: all, Id: 5}}, short(5), true},
		{[]api.Filter{{Mask: all, Id: 1<<31 | 5}}, short(5), false},
		{[]api.Filter{{Mask: 2047, Id: 1<<31 | 5}}, short(5), true},
		{[]api.Filter{{Mask: all, Id: 1}, {Mask: all, Id: 2}, {Mask: all, Id: 3}}, short(3), true},
		{[]api.Filter{{Mask: all, Id: 1}, {Mask: all, Id: 2}, {Mask: all, Id: 3}}, short(4), false},
		{[]api.Filter{{}}, short(2048), false},
		{[]api.Filter{{}}, api.Frame{Len: 9}, false},
		{[]api.Filter{{}}, api.Frame{Len: 1, B: [8]byte{1, 1}}, false},
	} {
		b := fresh(t, x.filters...)
		n := 0
		if x.want {
			n = 1
		}
		if got := b.Take(x.f); got != x.want || b.Taken() != n || b.Over() {
			t.Error(i, got, b.Taken())
		}
	}
}

func TestP2_2TakeAndRecv(t *testing.T) {
	b := fresh(t, api.Filter{})
	for i := range 4 {
		if !b.Take(marked(9, byte(i))) || b.Taken() != i+1 {
			t.Error(i, b.Taken())
		}
	}
	if b.Over() {
		t.Error("nothing was lost yet")
	}
	if b.Take(long(3)); b.Over() {
		t.Error("what is not let in is not lost")
	}
	if !b.Take(marked(1, 99)) || b.Taken() != 4 {
		t.Error("what is lost was let in", b.Taken())
	}
	if !b.Over() || b.Over() {
		t.Error("Over tells it once")
	}
	for i := range 4 {
		if f, ok := b.Recv(); !ok || f != marked(9, byte(i)) || b.Taken() != 3-i {
			t.Error(i, f, ok)
		}
	}
	if f, ok := b.Recv(); ok || f != (api.Frame{}) {
		t.Error(f, ok)
	}
	b.Take(marked(2, 5))
	if f, ok := b.Recv(); !ok || f != marked(2, 5) || b.Over() {
		t.Error(f, ok)
	}
}

func TestP2_2NilBox(t *testing.T) {
	var b *box.Box
	b.Done()
	f, ok := b.Next()
	g, ok2 := b.Recv()
	if b.Send(short(1)) != api.ErrNone || b.Send(short(5000)) != api.ErrNone || b.Take(short(1)) || b.Over() || b.Wait() != 0 || b.Taken() != 0 || ok || ok2 || f != (api.Frame{}) || g != (api.Frame{}) {
		t.Error("a nil box has frames")
	}
}

func TestP2_3SendingAndTakingStandApart(t *testing.T) {
	b := fresh(t, api.Filter{})
	b.Send(short(8))
	b.Take(short(2))
	if b.Wait() != 1 || b.Taken() != 1 {
		t.Error(b.Wait(), b.Taken())
	}
	f, _ := b.Next()
	g, _ := b.Recv()
	b.Done()
	if f != short(8) || g != short(2) || b.Wait() != 0 || b.Taken() != 0 {
		t.Error(f, g)
	}
}
