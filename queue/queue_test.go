package queue_test

import (
	"bytes"
	"math"
	"testing"

	"calliper/api"
	"calliper/queue"
)

func fresh(t *testing.T, most int) *queue.Queue {
	t.Helper()
	q, e := queue.New(most)
	if e != api.OK || q == nil {
		t.Fatal(e)
	}
	return q
}

// sample is packets of these codes, each with a byte that tells it apart.
func sample(codes ...uint8) []api.Rep {
	var l []api.Rep
	for i, c := range codes {
		l = append(l, api.Rep{Kind: api.Dto, Code: c, B: []byte{c, byte(i)}})
	}
	return l
}

// next wants packets of these codes, in order.
func next(t *testing.T, q *queue.Queue, codes ...uint8) {
	t.Helper()
	for _, c := range codes {
		n := q.Len()
		if r, ok := q.Next(); !ok || r.Code != c || r.Kind != api.Dto || len(r.B) != 2 || r.B[0] != c%64 || q.Len() != n-1 {
			t.Error(r, ok, "not", c)
		}
	}
}

func TestP13_1New(t *testing.T) {
	for _, n := range []int{math.MinInt, -1, 0, 1, 2, 64, 65, math.MaxInt} {
		q, e := queue.New(n)
		if may := n >= 1 && n <= 64; may != (e == api.OK) || may != (q != nil) || !may && e != api.ErrArg {
			t.Error(n, e)
		}
	}
	q := fresh(t, 64)
	if r, ok := q.Next(); ok || r.Kind != 0 || q.Len() != 0 {
		t.Error(r, ok)
	}
}

func TestP13_1PutAndNext(t *testing.T) {
	q := fresh(t, 4)
	if !q.Put(0, sample(0, 1)) || !q.Put(3, sample(63)) || q.Len() != 3 {
		t.Error(q.Len())
	}
	next(t, q, 0, 1, 63)
	if r, ok := q.Next(); ok || r.Code != 0 || len(r.B) != 0 {
		t.Error(r)
	}
}

func TestP13_1WhatIsNoSample(t *testing.T) {
	q := fresh(t, 2)
	for i, x := range []struct {
		list int
		l    []api.Rep
	}{
		{-1, sample(1)}, {4, sample(1)}, {math.MaxInt, sample(1)}, {math.MinInt, sample(1)},
		{0, nil}, {0, []api.Rep{}}, {0, sample(64)}, {0, sample(1, 255)}, {0, sample(1, 2, 64)}, {0, sample(64, 1, 2, 3, 4)},
	} {
		if q.Put(x.list, x.l) || q.Len() != 0 {
			t.Error(i, q.Len())
		}
	}
	q.Put(0, sample(1))
	next(t, q, 1)
}

func TestP13_1Lost(t *testing.T) {
	q := fresh(t, 2)
	if !q.Put(0, sample(0, 1)) || q.Put(0, sample(2)) || q.Len() != 2 {
		t.Error(q.Len())
	}
	next(t, q, 0)
	if q.Put(0, sample(2, 3)) || !q.Put(0, sample(4)) {
		t.Error(q.Len())
	}
	next(t, q, 1, 4+64)
	q.Put(0, sample(5, 6))
	next(t, q, 5, 6)
}

func TestP13_1OnlyTheFirstTellsWhatWasLost(t *testing.T) {
	q := fresh(t, 3)
	if q.Put(2, sample(1, 2, 3, 4)) || q.Len() != 0 {
		t.Error("a part of a sample waits")
	}
	q.Put(2, sample(1, 2, 3))
	next(t, q, 1+64, 2, 3)
}

func TestP13_1EachListOnItsOwn(t *testing.T) {
	q := fresh(t, 1)
	q.Put(0, sample(9))
	q.Put(1, sample(10))
	q.Put(3, sample(11))
	next(t, q, 9)
	q.Put(0, sample(12))
	next(t, q, 12)
	q.Put(2, sample(13))
	next(t, q, 13)
	q.Put(3, sample(14))
	next(t, q, 14+64)
	q.Put(1, sample(63))
	next(t, q, 127)
}

func TestP13_1Clear(t *testing.T) {
	q := fresh(t, 2)
	q.Put(0, sample(1, 2))
	q.Put(0, sample(3))
	q.Clear()
	if _, ok := q.Next(); ok || q.Len() != 0 {
		t.Error(q.Len())
	}
	q.Put(0, sample(4, 5))
	next(t, q, 4, 5)
}

func TestP13_1NewMemory(t *testing.T) {
	q := fresh(t, 4)
	l := sample(7, 8)
	q.Put(1, sample(1, 2, 3, 4, 5))
	q.Put(1, l)
	if l[0].Code != 7 {
		t.Error("changed", l)
	}
	l[0].B[0], l[1].Code = 99, 98
	r, _ := q.Next()
	if r.Code != 71 || !bytes.Equal(r.B, []byte{7, 0}) {
		t.Error(r)
	}
	next(t, q, 8)
}

func TestP13_1NilQueue(t *testing.T) {
	var q *queue.Queue
	q.Clear()
	if r, ok := q.Next(); ok || r.Kind != 0 || q.Len() != 0 || q.Put(0, sample(1)) {
		t.Error(r)
	}
}

func TestP13_2WholeInOrder(t *testing.T) {
	q := fresh(t, 7)
	var want []uint8
	lost := map[int]bool{}
	for i := range 40 {
		list, n := i%3, 1+i*7%4
		var codes []uint8
		for k := range n {
			codes = append(codes, uint8((i+k)%64))
		}
		if q.Put(list, sample(codes...)) {
			if lost[list] {
				codes[0] += 64
			}
			lost[list] = false
			want = append(want, codes...)
		} else {
			lost[list] = true
		}
		if q.Len() != len(want) || len(want) > 7 {
			t.Fatal(i, q.Len(), len(want))
		}
		if i%2 == 1 {
			n := min(3, len(want))
			next(t, q, want[:n]...)
			want = want[n:]
		}
	}
	next(t, q, want...)
}
