package bus_test

import (
	"testing"

	"calliper/api"
	"calliper/box"
	"calliper/bus"
)

// marked is a frame that can be told from others of the same Id.
func marked(id uint32, mark byte) api.Frame {
	return api.Frame{Id: id, Len: 1, B: [8]byte{mark}}
}

// open is a box that lets in all short frames, with some that wait.
func open(t *testing.T, l ...api.Frame) *box.Box {
	t.Helper()
	b, e := box.New([]api.Filter{{}})
	if e != api.OK {
		t.Fatal(e)
	}
	for _, f := range l {
		if e := b.Send(f); e != api.OK {
			t.Fatal(e)
		}
	}
	return b
}

// one is a box that lets in one short Id.
func one(t *testing.T, id uint32) *box.Box {
	t.Helper()
	b, e := box.New([]api.Filter{{Mask: 2047, Id: id}})
	if e != api.OK {
		t.Fatal(e)
	}
	return b
}

func TestP3_1First(t *testing.T) {
	for i, x := range []struct {
		l     []*box.Box
		place int
		f     api.Frame
		ok    bool
	}{
		{nil, 0, api.Frame{}, false},
		{[]*box.Box{nil, nil}, 0, api.Frame{}, false},
		{[]*box.Box{open(t), open(t)}, 0, api.Frame{}, false},
		{[]*box.Box{open(t, marked(5, 1)), open(t, marked(3, 2))}, 1, marked(3, 2), true},
		{[]*box.Box{open(t, marked(3, 1)), open(t, marked(5, 2))}, 0, marked(3, 1), true},
		{[]*box.Box{open(t), open(t, marked(3, 1)), open(t, marked(3, 2))}, 1, marked(3, 1), true},
		{[]*box.Box{nil, open(t), open(t, marked(2047, 1))}, 2, marked(2047, 1), true},
		{[]*box.Box{open(t, api.Frame{Id: 3 << 18, Ext: true}), open(t, marked(4, 1)), open(t, marked(3, 2))}, 2, marked(3, 2), true},
		{[]*box.Box{open(t, marked(4, 1)), open(t, api.Frame{Id: 3<<18 | 9, Ext: true})}, 1, api.Frame{Id: 3<<18 | 9, Ext: true}, true},
		{[]*box.Box{open(t, marked(9, 1), marked(2, 2)), open(t, marked(3, 3))}, 0, marked(2, 2), true},
	} {
		for range 2 {
			if place, f, ok := bus.First(x.l...); place != x.place || f != x.f || ok != x.ok {
				t.Error(i, place, f, ok)
			}
		}
	}
}

func TestP3_2TurnComesToTheOthers(t *testing.T) {
	a, b, c, d := open(t, marked(5, 1)), open(t, marked(3, 2)), one(t, 3), one(t, 5)
	place, f, ok := bus.Turn(false, a, b, c, d)
	if place != 1 || f != marked(3, 2) || !ok {
		t.Error(place, f, ok)
	}
	if a.Wait() != 1 || b.Wait() != 0 || a.Taken() != 1 || b.Taken() != 0 || c.Taken() != 1 || d.Taken() != 0 {
		t.Error(a, b, c, d)
	}
	if f, _ := a.Recv(); f != marked(3, 2) {
		t.Error(f)
	}
	if place, f, ok = bus.Turn(false, a, b, c, d); place != 0 || f != marked(5, 1) || !ok {
		t.Error(place, f, ok)
	}
	if a.Taken() != 0 || b.Taken() != 1 || c.Taken() != 1 || d.Taken() != 1 {
		t.Error(a, b, c, d)
	}
	if place, f, ok = bus.Turn(false, a, b, c, d); place != 0 || f != (api.Frame{}) || ok {
		t.Error(place, f, ok)
	}
}

func TestP3_2TurnLost(t *testing.T) {
	a, b := open(t, marked(5, 1)), open(t)
	place, f, ok := bus.Turn(true, b, a)
	if place != 1 || f != marked(5, 1) || !ok || a.Wait() != 0 || b.Taken() != 0 || a.Taken() != 0 {
		t.Error(place, f, ok, a, b)
	}
	if place, f, ok = bus.Turn(true, b, a); place != 0 || f != (api.Frame{}) || ok {
		t.Error(place, f, ok)
	}
}

func TestP3_2TurnOfABoxThatIsThereTwice(t *testing.T) {
	a, b := open(t), open(t, marked(5, 1))
	if place, _, ok := bus.Turn(false, a, b, a, b); place != 1 || !ok {
		t.Error(place, ok)
	}
	if a.Taken() != 2 || b.Taken() != 1 || b.Wait() != 0 {
		t.Error(a.Taken(), b.Taken())
	}
}

func TestP3_2TurnOfAloneAndNil(t *testing.T) {
	a := open(t, marked(5, 1))
	if place, f, ok := bus.Turn(false, nil, a, nil); place != 1 || f != marked(5, 1) || !ok || a.Taken() != 0 {
		t.Error(place, f, ok)
	}
	if place, f, ok := bus.Turn(false); place != 0 || f != (api.Frame{}) || ok {
		t.Error(place, f, ok)
	}
}

func TestP3_2Put(t *testing.T) {
	a, b, c := open(t, marked(1, 1)), one(t, 3), one(t, 4)
	for i, x := range []struct {
		f    api.Frame
		l    []*box.Box
		want int
	}{
		{marked(3, 7), nil, 0},
		{marked(3, 7), []*box.Box{a, nil, b, c}, 2},
		{marked(3, 8), []*box.Box{a, a}, 2},
		{api.Frame{Id: 3, Ext: true}, []*box.Box{a, b, c}, 0},
		{api.Frame{Id: 3, Len: 9}, []*box.Box{a, b, c}, 0},
	} {
		if got := bus.Put(x.f, x.l...); got != x.want {
			t.Error(i, got)
		}
	}
	if a.Taken() != 3 || b.Taken() != 1 || c.Taken() != 0 || a.Wait() != 1 {
		t.Error(a.Taken(), b.Taken(), c.Taken())
	}
	for range 3 {
		bus.Put(marked(3, 9), a)
	}
	if got := bus.Put(marked(3, 9), a); got != 1 {
		t.Error("what is lost was let in", got)
	}
}

func TestP3_3EachFrameComesOnce(t *testing.T) {
	a, b, c := open(t, marked(9, 1), marked(2, 2)), open(t, marked(4, 3)), open(t)
	var order []byte
	for {
		_, f, ok := bus.Turn(false, a, b, c)
		if !ok {
			break
		}
		order = append(order, f.B[0])
	}
	if string(order) != "\x02\x03\x01" || a.Taken() != 1 || b.Taken() != 2 || c.Taken() != 3 {
		t.Error(order, a.Taken(), b.Taken(), c.Taken())
	}
}
