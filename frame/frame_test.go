package frame_test

import (
	"bytes"
	"testing"

	"calliper/api"
	"calliper/frame"
)

func TestP1_1May(t *testing.T) {
	for i, x := range []struct {
		f    api.Frame
		want bool
	}{
		{api.Frame{}, true},
		{api.Frame{Id: 2047}, true},
		{api.Frame{Id: 2048}, false},
		{api.Frame{Id: 1<<32 - 1}, false},
		{api.Frame{Id: 2048, Ext: true}, true},
		{api.Frame{Id: 1<<29 - 1, Ext: true}, true},
		{api.Frame{Id: 1 << 29, Ext: true}, false},
		{api.Frame{Len: -1}, false},
		{api.Frame{Len: -1 << 63}, false},
		{api.Frame{Len: 9}, false},
		{api.Frame{Len: 1<<63 - 1}, false},
		{api.Frame{Len: 8, B: [8]byte{1, 2, 3, 4, 5, 6, 7, 8}}, true},
		{api.Frame{Len: 7, B: [8]byte{1, 2, 3, 4, 5, 6, 7, 8}}, false},
		{api.Frame{Len: 7, B: [8]byte{1, 2, 3, 4, 5, 6, 7, 0}}, true},
		{api.Frame{Len: 0, B: [8]byte{1}}, false},
		{api.Frame{Len: 1, B: [8]byte{1}}, true},
		{api.Frame{Len: 2, B: [8]byte{0, 0, 1}}, false},
		{api.Frame{Len: 3, B: [8]byte{0, 0, 1}}, true},
		{api.Frame{Len: 3, B: [8]byte{0, 0, 1, 0, 0, 0, 0, 9}}, false},
	} {
		if got := frame.May(x.f); got != x.want {
			t.Error(i, x.f, got)
		}
	}
}

func TestP1_1Make(t *testing.T) {
	for i, x := range []struct {
		id   uint32
		ext  bool
		b    []byte
		want api.Frame
		e    api.Errno
	}{
		{5, false, []byte{1, 2}, api.Frame{Id: 5, Len: 2, B: [8]byte{1, 2}}, api.OK},
		{0, false, nil, api.Frame{}, api.OK},
		{0, true, []byte{}, api.Frame{Ext: true}, api.OK},
		{2047, false, []byte{1, 2, 3, 4, 5, 6, 7, 8}, api.Frame{Id: 2047, Len: 8, B: [8]byte{1, 2, 3, 4, 5, 6, 7, 8}}, api.OK},
		{2048, false, nil, api.Frame{}, api.ErrArg},
		{1<<29 - 1, true, []byte{0}, api.Frame{Id: 1<<29 - 1, Ext: true, Len: 1}, api.OK},
		{1 << 29, true, nil, api.Frame{}, api.ErrArg},
		{1, false, make([]byte, 9), api.Frame{}, api.ErrLong},
		{1, true, make([]byte, 100), api.Frame{}, api.ErrLong},
		{2048, false, make([]byte, 9), api.Frame{}, api.ErrArg},
		{1 << 29, true, make([]byte, 9), api.Frame{}, api.ErrArg},
	} {
		got, e := frame.Make(x.id, x.ext, x.b)
		if got != x.want || e != x.e {
			t.Error(i, got, e)
		}
	}
}

func TestP1_1MakeReadsNothingBehind(t *testing.T) {
	room := []byte{1, 2, 3, 4}
	f, _ := frame.Make(1, false, room[:2])
	if f != (api.Frame{Id: 1, Len: 2, B: [8]byte{1, 2}}) || !bytes.Equal(room, []byte{1, 2, 3, 4}) {
		t.Error(f, room)
	}
}

func TestP1_1Bytes(t *testing.T) {
	f := api.Frame{Id: 5, Len: 3, B: [8]byte{4, 0, 6}}
	if got := frame.Bytes(f); !bytes.Equal(got, []byte{4, 0, 6}) {
		t.Error(got)
	}
	one, other := frame.Bytes(f), frame.Bytes(f)
	one[0] = 99
	if other[0] != 4 || f.B[0] != 4 {
		t.Error("shared", other, f)
	}
	for i, f := range []api.Frame{{}, {Id: 2048, Len: 1}, {Len: 9}, {Len: -1}, {Len: 1, B: [8]byte{1, 2}}, {Id: 1 << 29, Ext: true, Len: 2}} {
		if got := frame.Bytes(f); len(got) != 0 {
			t.Error(i, got)
		}
	}
}

func TestP1_2Pad(t *testing.T) {
	for i, x := range []struct {
		f    api.Frame
		with byte
		want api.Frame
	}{
		{api.Frame{Id: 3, Len: 2, B: [8]byte{1, 2}}, 170, api.Frame{Id: 3, Len: 8, B: [8]byte{1, 2, 170, 170, 170, 170, 170, 170}}},
		{api.Frame{Id: 3, Ext: true}, 0, api.Frame{Id: 3, Ext: true, Len: 8}},
		{api.Frame{Id: 3}, 7, api.Frame{Id: 3, Len: 8, B: [8]byte{7, 7, 7, 7, 7, 7, 7, 7}}},
		{api.Frame{Len: 8, B: [8]byte{8, 7, 6, 5, 4, 3, 2, 1}}, 9, api.Frame{Len: 8, B: [8]byte{8, 7, 6, 5, 4, 3, 2, 1}}},
		{api.Frame{Id: 2048, Len: 1}, 9, api.Frame{Id: 2048, Len: 1}},
		{api.Frame{Len: 12}, 9, api.Frame{Len: 12}},
		{api.Frame{Len: -3}, 9, api.Frame{Len: -3}},
		{api.Frame{Len: 1, B: [8]byte{1, 2}}, 9, api.Frame{Len: 1, B: [8]byte{1, 2}}},
	} {
		if got := frame.Pad(x.f, x.with); got != x.want {
			t.Error(i, got)
		}
	}
}

func TestP1_2Rank(t *testing.T) {
	for i, x := range []struct {
		f    api.Frame
		want uint32
	}{
		{api.Frame{}, 0},
		{api.Frame{Id: 1}, 1 << 19},
		{api.Frame{Id: 2047, Len: 8, B: [8]byte{9}}, 2047 << 19},
		{api.Frame{Ext: true}, 1 << 18},
		{api.Frame{Id: 1 << 18, Ext: true}, 1<<19 + 1<<18},
		{api.Frame{Id: 1<<18 - 1, Ext: true}, 1<<19 - 1},
		{api.Frame{Id: 3<<18 | 5, Ext: true}, 3<<19 + 1<<18 + 5},
		{api.Frame{Id: 1<<29 - 1, Ext: true}, 1<<30 - 1},
		{api.Frame{Id: 2048}, 1<<32 - 1},
		{api.Frame{Id: 1 << 29, Ext: true}, 1<<32 - 1},
		{api.Frame{Id: 1, Len: 9}, 1<<32 - 1},
		{api.Frame{Id: 1, Len: 0, B: [8]byte{1}}, 1<<32 - 1},
	} {
		if got := frame.Rank(x.f); got != x.want {
			t.Error(i, x.f, got)
		}
	}
}

func TestP1_3RankTellsIdsApart(t *testing.T) {
	type who struct {
		id  uint32
		ext bool
	}
	var all []who
	for _, high := range []uint32{0, 1, 2, 3, 1023, 1024, 2046, 2047} {
		all = append(all, who{high, false})
		for _, low := range []uint32{0, 1, 2, 1 << 17, 1<<18 - 2, 1<<18 - 1} {
			all = append(all, who{high<<18 | low, true})
		}
	}
	for _, a := range all {
		for _, b := range all {
			x := frame.Rank(api.Frame{Id: a.id, Ext: a.ext, Len: 1, B: [8]byte{1}})
			y := frame.Rank(api.Frame{Id: b.id, Ext: b.ext})
			if (x == y) != (a == b) {
				t.Error(a, b, x, y)
			}
			if !a.ext && b.ext && b.id>>18 == a.id && x >= y {
				t.Error("a short Id goes ahead", a, b)
			}
		}
	}
}
