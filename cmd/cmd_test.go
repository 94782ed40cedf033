package cmd_test

import (
	"bytes"
	"testing"

	"calliper/api"
	"calliper/cmd"
)

type shape struct {
	small int
	great bool
	bytes int
}

var shapes = map[uint8]shape{
	api.Connect: {1, false, 0}, api.Disconnect: {0, false, 0}, api.Status: {0, false, 0}, api.Synch: {0, false, 0},
	api.SetMta: {1, true, 0}, api.Upload: {1, false, 0}, api.ShortUp: {2, true, 0}, api.Download: {1, false, 6},
	api.DownNext: {1, false, 6}, api.DownMax: {0, false, 7}, api.Modify: {1, true, 0}, api.Seed: {2, false, 0},
	api.Unlock: {1, false, 6}, api.Checksum: {1, true, 0}, api.SetPage: {3, false, 0}, api.GetPage: {2, false, 0},
	api.CopyPage: {3, false, 0}, api.FreeDaq: {0, false, 0}, api.AllocDaq: {1, false, 0}, api.AllocOdt: {2, false, 0},
	api.AllocEntry: {3, false, 0}, api.SetPtr: {3, false, 0}, api.WriteDaq: {2, true, 0}, api.SetMode: {5, false, 0},
	api.StartStop: {2, false, 0}, api.StartAll: {1, false, 0},
}

func same(a, b api.Cmd) bool {
	return a.Code == b.Code && a.A == b.A && a.W == b.W && bytes.Equal(a.B, b.B)
}

func none(c api.Cmd) bool { return same(c, api.Cmd{}) }

func TestP6_1Shape(t *testing.T) {
	for k := range 256 {
		want, there := shapes[uint8(k)]
		small, great, n, ok := cmd.Shape(uint8(k))
		if ok != there || small != want.small || great != want.great || n != want.bytes {
			t.Error(k, small, great, n, ok)
		}
	}
}

func TestP6_2Put(t *testing.T) {
	for i, x := range []struct {
		c    api.Cmd
		want []byte
	}{
		{api.Cmd{Code: api.ShortUp, A: [5]uint8{4, 1}, W: 258}, []byte{7, 4, 1, 0, 0, 1, 2}},
		{api.Cmd{Code: api.Download, A: [5]uint8{9}, B: []byte{1, 2, 3, 4, 5, 6}}, []byte{8, 9, 1, 2, 3, 4, 5, 6}},
		{api.Cmd{Code: api.Download, A: [5]uint8{2}, B: []byte{1, 2}}, []byte{8, 2, 1, 2}},
		{api.Cmd{Code: api.Download}, []byte{8, 0}},
		{api.Cmd{Code: api.DownNext, A: [5]uint8{255}, B: []byte{1, 2, 3, 4, 5, 6}}, []byte{9, 255, 1, 2, 3, 4, 5, 6}},
		{api.Cmd{Code: api.Unlock, A: [5]uint8{6}, B: []byte{1, 2, 3, 4, 5, 6}}, []byte{13, 6, 1, 2, 3, 4, 5, 6}},
		{api.Cmd{Code: api.DownMax, B: []byte{1, 2, 3, 4, 5, 6, 7}}, []byte{10, 1, 2, 3, 4, 5, 6, 7}},
		{api.Cmd{Code: api.Status, B: []byte{}}, []byte{3}},
		{api.Cmd{Code: api.SetMode, A: [5]uint8{1, 2, 3, 4, 5}}, []byte{24, 1, 2, 3, 4, 5}},
		{api.Cmd{Code: api.SetMta, A: [5]uint8{3}, W: 0xfedcba98}, []byte{5, 3, 0xfe, 0xdc, 0xba, 0x98}},
		{api.Cmd{Code: api.StartAll, A: [5]uint8{2}}, []byte{26, 2}},
	} {
		if got, e := cmd.Put(x.c); e != api.OK || !bytes.Equal(got, x.want) {
			t.Error(i, got, e)
		}
	}
}

func TestP6_2PutRefuses(t *testing.T) {
	for i, c := range []api.Cmd{
		{}, {Code: 27}, {Code: 255},
		{Code: api.Status, A: [5]uint8{1}},
		{Code: api.Connect, A: [5]uint8{0, 1}},
		{Code: api.Seed, A: [5]uint8{0, 1, 1}},
		{Code: api.SetPage, A: [5]uint8{1, 0, 1, 0, 9}},
		{Code: api.Status, W: 1},
		{Code: api.Download, W: 1},
		{Code: api.Status, B: []byte{0}},
		{Code: api.ShortUp, A: [5]uint8{1}, B: []byte{0}},
		{Code: api.SetMode, A: [5]uint8{9, 9, 9, 9, 9}, B: []byte{0}},
		{Code: api.Download, B: []byte{0}},
		{Code: api.Download, A: [5]uint8{1}},
		{Code: api.Download, A: [5]uint8{1}, B: []byte{1, 2}},
		{Code: api.Download, A: [5]uint8{6}, B: make([]byte, 5)},
		{Code: api.Download, A: [5]uint8{7}, B: make([]byte, 7)},
		{Code: api.DownNext, A: [5]uint8{9}, B: make([]byte, 5)},
		{Code: api.Unlock, A: [5]uint8{9}, B: make([]byte, 9)},
		{Code: api.DownMax},
		{Code: api.DownMax, B: make([]byte, 6)},
		{Code: api.DownMax, B: make([]byte, 8)},
		{Code: api.DownMax, A: [5]uint8{7}, B: make([]byte, 7)},
	} {
		if got, e := cmd.Put(c); e != api.ErrArg || len(got) != 0 {
			t.Error(i, got, e)
		}
	}
}

func TestP6_3Take(t *testing.T) {
	for i, x := range []struct {
		b    []byte
		want api.Cmd
		e    api.Errno
	}{
		{[]byte{7, 4, 1, 0, 0, 1, 2}, api.Cmd{Code: api.ShortUp, A: [5]uint8{4, 1}, W: 258}, api.OK},
		{[]byte{7, 4, 1, 0, 0, 1, 2, 9}, api.Cmd{Code: api.ShortUp, A: [5]uint8{4, 1}, W: 258}, api.OK},
		{[]byte{8, 2, 5, 6, 7, 8}, api.Cmd{Code: api.Download, A: [5]uint8{2}, B: []byte{5, 6}}, api.OK},
		{[]byte{8, 200, 1, 2, 3, 4, 5, 6, 7, 8}, api.Cmd{Code: api.Download, A: [5]uint8{200}, B: []byte{1, 2, 3, 4, 5, 6}}, api.OK},
		{[]byte{8, 0}, api.Cmd{Code: api.Download}, api.OK},
		{[]byte{3}, api.Cmd{Code: api.Status}, api.OK},
		{[]byte{3, 3, 3}, api.Cmd{Code: api.Status}, api.OK},
		{[]byte{24, 1, 2, 3, 4, 5, 6}, api.Cmd{Code: api.SetMode, A: [5]uint8{1, 2, 3, 4, 5}}, api.OK},
		{nil, api.Cmd{}, api.ErrShort},
		{[]byte{}, api.Cmd{}, api.ErrShort},
		{[]byte{0}, api.Cmd{}, api.ErrArg},
		{[]byte{27, 1, 2, 3}, api.Cmd{}, api.ErrArg},
		{[]byte{255}, api.Cmd{}, api.ErrArg},
		{[]byte{1}, api.Cmd{}, api.ErrShort},
		{[]byte{24, 1, 2, 3, 4}, api.Cmd{}, api.ErrShort},
		{[]byte{5, 1, 2, 3, 4}, api.Cmd{}, api.ErrShort},
		{[]byte{7, 1}, api.Cmd{}, api.ErrShort},
		{[]byte{7, 4, 1, 0, 0, 1}, api.Cmd{}, api.ErrShort},
		{[]byte{8}, api.Cmd{}, api.ErrShort},
		{[]byte{8, 1}, api.Cmd{}, api.ErrShort},
		{[]byte{8, 6, 1, 2, 3, 4, 5}, api.Cmd{}, api.ErrShort},
		{[]byte{8, 99, 1, 2, 3, 4, 5}, api.Cmd{}, api.ErrShort},
		{[]byte{10, 1, 2, 3, 4, 5, 6}, api.Cmd{}, api.ErrShort},
	} {
		if got, e := cmd.Take(x.b); e != x.e || !same(got, x.want) {
			t.Error(i, got, e)
		}
	}
}

func TestP6_3TakeIsNewMemory(t *testing.T) {
	b := []byte{8, 2, 5, 6, 7}
	c, _ := cmd.Take(b)
	c.B[0] = 99
	_ = append(c.B[:1:len(c.B)], 98)
	if !bytes.Equal(b, []byte{8, 2, 5, 6, 7}) {
		t.Error("shared", b)
	}
	from := api.Cmd{Code: api.Download, A: [5]uint8{2}, B: []byte{1, 2, 3}[:2]}
	out, _ := cmd.Put(from)
	out[2] = 99
	if !bytes.Equal(from.B[:3], []byte{1, 2, 3}) {
		t.Error("shared", from.B)
	}
}

// commands are some of each code, with all its numbers and as many bytes as it must have.
func commands() []api.Cmd {
	var l []api.Cmd
	for code, s := range shapes {
		for _, first := range []uint8{0, 1, 5, 6, 7, 42, 255} {
			c := api.Cmd{Code: code}
			for i := range s.small {
				c.A[i] = first + uint8(i)
			}
			if s.great {
				c.W = 0x80000000 | uint32(first)
			}
			n := s.bytes
			if s.small > 0 {
				n = min(n, int(first))
			}
			for i := range n {
				c.B = append(c.B, first^uint8(7*i+1))
			}
			l = append(l, c)
		}
	}
	return l
}

func TestP6_4PutIsTaken(t *testing.T) {
	for _, c := range commands() {
		b, e := cmd.Put(c)
		if e != api.OK || len(b) > 8 {
			t.Error(c, b, e)
		}
		for _, behind := range [][]byte{nil, {0}, {1, 2, 3, 4, 5, 6, 7, 8}} {
			got, e := cmd.Take(append(bytes.Clone(b), behind...))
			if e != api.OK || !same(got, c) {
				t.Error(c, got, e)
			}
		}
		for n := range b {
			if got, e := cmd.Take(b[:n:n]); e != api.ErrShort || !none(got) {
				t.Error(c, n, got, e)
			}
		}
	}
}
