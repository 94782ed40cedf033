package rep_test

import (
	"bytes"
	"math"
	"testing"

	"calliper/api"
	"calliper/rep"
)

func same(a, b api.Rep) bool {
	return a.Kind == b.Kind && a.Code == b.Code && bytes.Equal(a.B, b.B)
}

func TestP7_1Put(t *testing.T) {
	seven := []byte{1, 2, 3, 4, 5, 6, 7}
	for i, x := range []struct {
		r    api.Rep
		want []byte
		e    api.Errno
	}{
		{api.Rep{Kind: api.Pos, B: []byte{1, 2}}, []byte{255, 1, 2}, api.OK},
		{api.Rep{Kind: api.Pos}, []byte{255}, api.OK},
		{api.Rep{Kind: api.Pos, B: seven}, []byte{255, 1, 2, 3, 4, 5, 6, 7}, api.OK},
		{api.Rep{Kind: api.Pos, B: make([]byte, 8)}, nil, api.ErrArg},
		{api.Rep{Kind: api.Pos, Code: 1}, nil, api.ErrArg},
		{api.Rep{Kind: api.Neg, Code: 33}, []byte{254, 33}, api.OK},
		{api.Rep{Kind: api.Neg, Code: 255, B: []byte{}}, []byte{254, 255}, api.OK},
		{api.Rep{Kind: api.Neg, Code: 33, B: []byte{1}}, nil, api.ErrArg},
		{api.Rep{Kind: api.Ev, Code: 9, B: seven[:6]}, []byte{253, 9, 1, 2, 3, 4, 5, 6}, api.OK},
		{api.Rep{Kind: api.Ev}, []byte{253, 0}, api.OK},
		{api.Rep{Kind: api.Ev, Code: 9, B: seven}, nil, api.ErrArg},
		{api.Rep{Kind: api.Dto, Code: 3, B: []byte{7}}, []byte{3, 7}, api.OK},
		{api.Rep{Kind: api.Dto, Code: 0}, []byte{0}, api.OK},
		{api.Rep{Kind: api.Dto, Code: 191, B: seven}, []byte{191, 1, 2, 3, 4, 5, 6, 7}, api.OK},
		{api.Rep{Kind: api.Dto, Code: 192}, nil, api.ErrArg},
		{api.Rep{Kind: api.Dto, Code: 255}, nil, api.ErrArg},
		{api.Rep{Kind: api.Dto, Code: 1, B: make([]byte, 8)}, nil, api.ErrArg},
		{api.Rep{}, nil, api.ErrArg},
		{api.Rep{Kind: 5}, nil, api.ErrArg},
		{api.Rep{Kind: 255}, nil, api.ErrArg},
	} {
		if got, e := rep.Put(x.r); e != x.e || !bytes.Equal(got, x.want) {
			t.Error(i, got, e)
		}
	}
}

func TestP7_2Take(t *testing.T) {
	for i, x := range []struct {
		b    []byte
		want api.Rep
		e    api.Errno
	}{
		{nil, api.Rep{}, api.ErrShort},
		{[]byte{254}, api.Rep{}, api.ErrShort},
		{[]byte{253}, api.Rep{}, api.ErrShort},
		{[]byte{192}, api.Rep{}, api.ErrArg},
		{[]byte{252, 1, 2}, api.Rep{}, api.ErrArg},
		{[]byte{220, 1}, api.Rep{}, api.ErrArg},
		{[]byte{255}, api.Rep{Kind: api.Pos}, api.OK},
		{[]byte{255, 1, 2}, api.Rep{Kind: api.Pos, B: []byte{1, 2}}, api.OK},
		{[]byte{255, 1, 2, 3, 4, 5, 6, 7}, api.Rep{Kind: api.Pos, B: []byte{1, 2, 3, 4, 5, 6, 7}}, api.OK},
		{[]byte{255, 1, 2, 3, 4, 5, 6, 7, 8}, api.Rep{Kind: api.Pos, B: []byte{1, 2, 3, 4, 5, 6, 7}}, api.OK},
		{[]byte{254, 33}, api.Rep{Kind: api.Neg, Code: 33}, api.OK},
		{[]byte{254, 33, 1, 2}, api.Rep{Kind: api.Neg, Code: 33}, api.OK},
		{[]byte{253, 4}, api.Rep{Kind: api.Ev, Code: 4}, api.OK},
		{[]byte{253, 4, 1, 2, 3, 4, 5, 6, 7}, api.Rep{Kind: api.Ev, Code: 4, B: []byte{1, 2, 3, 4, 5, 6}}, api.OK},
		{[]byte{0}, api.Rep{Kind: api.Dto}, api.OK},
		{[]byte{191, 5}, api.Rep{Kind: api.Dto, Code: 191, B: []byte{5}}, api.OK},
		{[]byte{64, 1, 2, 3, 4, 5, 6, 7, 8}, api.Rep{Kind: api.Dto, Code: 64, B: []byte{1, 2, 3, 4, 5, 6, 7}}, api.OK},
	} {
		if got, e := rep.Take(x.b); e != x.e || !same(got, x.want) {
			t.Error(i, got, e)
		}
	}
	for first := 192; first <= 252; first++ {
		if got, e := rep.Take([]byte{byte(first), 1}); e != api.ErrArg || !same(got, api.Rep{}) {
			t.Error(first, got, e)
		}
	}
}

func TestP7_2NewMemory(t *testing.T) {
	b := []byte{255, 1, 2}
	r, _ := rep.Take(b)
	r.B[0] = 99
	room := []byte{1, 2, 3}
	out, _ := rep.Put(api.Rep{Kind: api.Dto, Code: 4, B: room[:1]})
	out[1] = 99
	if b[1] != 1 || !bytes.Equal(room, []byte{1, 2, 3}) {
		t.Error("shared", b, room)
	}
}

func TestP7_3Code(t *testing.T) {
	for i, x := range []struct {
		e    api.Errno
		want uint8
	}{{0, 0}, {1, 1}, {80, 80}, {255, 255}, {256, 0}, {300, 44}, {-1, 0}, {-300, 0}, {math.MinInt, 0}, {math.MaxInt, 255}} {
		if got := rep.Code(x.e); got != x.want {
			t.Error(i, got)
		}
	}
}

func TestP7_4PutIsTaken(t *testing.T) {
	for kind := range 7 {
		for code := range 256 {
			for n := range 9 {
				r := api.Rep{Kind: uint8(kind), Code: uint8(code)}
				for i := range n {
					r.B = append(r.B, byte(code+i))
				}
				b, e := rep.Put(r)
				if e != api.OK {
					continue
				}
				if got, e := rep.Take(b); e != api.OK || !same(got, r) || len(b) > 8 {
					t.Error(r, b, got, e)
				}
			}
		}
	}
}
