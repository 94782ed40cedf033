package num_test

import (
	"bytes"
	"math"
	"testing"

	"calliper/api"
	"calliper/num"
)

var noWidths = []int{math.MinInt, -8, -1, 0, 3, 5, 6, 7, 9, 16, math.MaxInt}

func TestP4_1Put(t *testing.T) {
	for i, x := range []struct {
		b    []byte
		v    uint64
		wide int
		big  bool
		want []byte
	}{
		{nil, 258, 2, true, []byte{1, 2}},
		{nil, 258, 2, false, []byte{2, 1}},
		{nil, 258, 1, true, []byte{2}},
		{nil, 258, 1, false, []byte{2}},
		{[]byte{9, 8}, 0x01020304, 4, true, []byte{9, 8, 1, 2, 3, 4}},
		{[]byte{9}, 0x01020304, 4, false, []byte{9, 4, 3, 2, 1}},
		{nil, 0x0102030405060708, 8, true, []byte{1, 2, 3, 4, 5, 6, 7, 8}},
		{nil, 0x0102030405060708, 8, false, []byte{8, 7, 6, 5, 4, 3, 2, 1}},
		{nil, 0xff01020304050607, 4, true, []byte{4, 5, 6, 7}},
		{nil, math.MaxUint64, 8, true, []byte{255, 255, 255, 255, 255, 255, 255, 255}},
		{nil, 0, 4, false, []byte{0, 0, 0, 0}},
	} {
		if got, e := num.Put(x.b, x.v, x.wide, x.big); e != api.OK || !bytes.Equal(got, x.want) {
			t.Error(i, got, e)
		}
	}
	for _, wide := range noWidths {
		if got, e := num.Put([]byte{1}, 1, wide, true); e != api.ErrArg || len(got) != 0 {
			t.Error(wide, got, e)
		}
	}
}

func TestP4_1PutIsNewMemory(t *testing.T) {
	room := []byte{1, 2, 3, 4}
	got, _ := num.Put(room[:1], 9, 1, true)
	if room[1] != 2 {
		t.Error("put behind the list", room)
	}
	got[0] = 77
	if room[0] != 1 {
		t.Error("shared", room)
	}
}

func TestP4_1Take(t *testing.T) {
	for i, x := range []struct {
		b    []byte
		wide int
		big  bool
		v    uint64
		rest []byte
		e    api.Errno
	}{
		{[]byte{1, 2}, 2, true, 258, nil, api.OK},
		{[]byte{1, 2}, 2, false, 513, nil, api.OK},
		{[]byte{7, 8, 9}, 1, false, 7, []byte{8, 9}, api.OK},
		{[]byte{1, 2, 3, 4, 5}, 4, true, 0x01020304, []byte{5}, api.OK},
		{[]byte{1, 2, 3, 4, 5}, 4, false, 0x04030201, []byte{5}, api.OK},
		{[]byte{1, 2, 3, 4, 5, 6, 7, 8, 9}, 8, true, 0x0102030405060708, []byte{9}, api.OK},
		{[]byte{1, 2, 3, 4, 5, 6, 7, 255, 9}, 8, false, 0xff07060504030201, []byte{9}, api.OK},
		{nil, 1, true, 0, nil, api.ErrShort},
		{[]byte{1}, 2, true, 0, nil, api.ErrShort},
		{[]byte{1, 2, 3}, 4, true, 0, nil, api.ErrShort},
		{[]byte{1, 2, 3, 4, 5, 6, 7}, 8, true, 0, nil, api.ErrShort},
	} {
		if v, rest, e := num.Take(x.b, x.wide, x.big); v != x.v || !bytes.Equal(rest, x.rest) || e != x.e {
			t.Error(i, v, rest, e)
		}
	}
	for _, wide := range noWidths {
		for _, b := range [][]byte{nil, make([]byte, 20)} {
			if v, rest, e := num.Take(b, wide, true); v != 0 || len(rest) != 0 || e != api.ErrArg {
				t.Error(wide, v, rest, e)
			}
		}
	}
}

func TestP4_1TakeIsNewMemory(t *testing.T) {
	b := []byte{1, 2, 3}
	_, rest, _ := num.Take(b, 1, true)
	rest[0] = 77
	if !bytes.Equal(b, []byte{1, 2, 3}) {
		t.Error("shared", b)
	}
	_ = append(rest[:1:2], 5)
	if !bytes.Equal(b, []byte{1, 2, 3}) {
		t.Error("shared", b)
	}
}

func TestP4_2Signed(t *testing.T) {
	for i, x := range []struct {
		v    uint64
		wide int
		want int64
		ok   bool
	}{
		{0, 1, 0, true},
		{127, 1, 127, true},
		{128, 1, -128, true},
		{255, 1, -1, true},
		{256, 1, 0, true},
		{0xabcdef80, 1, -128, true},
		{0x7fff, 2, 32767, true},
		{0x8000, 2, -32768, true},
		{0x1ffff, 2, -1, true},
		{0x7fffffff, 4, math.MaxInt32, true},
		{0x80000000, 4, math.MinInt32, true},
		{0x1234567880000000, 4, math.MinInt32, true},
		{1<<63 - 1, 8, math.MaxInt64, true},
		{1 << 63, 8, math.MinInt64, true},
		{math.MaxUint64, 8, -1, true},
	} {
		if got, ok := num.Signed(x.v, x.wide); got != x.want || ok != x.ok {
			t.Error(i, got, ok)
		}
	}
	for _, wide := range noWidths {
		if got, ok := num.Signed(5, wide); got != 0 || ok {
			t.Error(wide, got, ok)
		}
	}
}

func TestP4_2Fits(t *testing.T) {
	for i, x := range []struct {
		v      int64
		wide   int
		signed bool
		want   bool
	}{
		{0, 1, false, true}, {255, 1, false, true}, {256, 1, false, false}, {-1, 1, false, false},
		{-128, 1, true, true}, {127, 1, true, true}, {128, 1, true, false}, {-129, 1, true, false},
		{65535, 2, false, true}, {65536, 2, false, false}, {-1, 2, false, false},
		{-32768, 2, true, true}, {32767, 2, true, true}, {32768, 2, true, false}, {-32769, 2, true, false},
		{1<<32 - 1, 4, false, true}, {1 << 32, 4, false, false}, {-1, 4, false, false},
		{math.MinInt32, 4, true, true}, {math.MaxInt32, 4, true, true}, {1 << 31, 4, true, false}, {math.MinInt32 - 1, 4, true, false},
		{math.MaxInt64, 8, false, true}, {-1, 8, false, false}, {math.MinInt64, 8, false, false}, {0, 8, false, true},
		{math.MaxInt64, 8, true, true}, {math.MinInt64, 8, true, true}, {-1, 8, true, true},
		{math.MinInt64, 4, true, false}, {math.MaxInt64, 4, false, false},
	} {
		if got := num.Fits(x.v, x.wide, x.signed); got != x.want {
			t.Error(i, got)
		}
	}
	for _, wide := range noWidths {
		if num.Fits(0, wide, false) || num.Fits(0, wide, true) {
			t.Error(wide)
		}
	}
}

func TestP4_3PutIsTaken(t *testing.T) {
	for _, v := range []uint64{0, 1, 127, 128, 255, 256, 0x1234, 0xfedc, 1 << 31, 0xdeadbeef, 0x0123456789abcdef, 1 << 63, math.MaxUint64} {
		for _, wide := range []int{1, 2, 4, 8} {
			for _, big := range []bool{false, true} {
				b, e := num.Put(nil, v, wide, big)
				got, rest, e2 := num.Take(append(b, 1, 2), wide, big)
				want := v
				if wide < 8 {
					want = v % (1 << (8 * wide))
				}
				if e != api.OK || e2 != api.OK || got != want || !bytes.Equal(rest, []byte{1, 2}) {
					t.Error(v, wide, big, got, rest, e, e2)
				}
			}
		}
	}
}
