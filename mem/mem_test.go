package mem_test

import (
	"bytes"
	"math"
	"testing"

	"calliper/api"
	"calliper/mem"
)

func fresh(t *testing.T, m api.Map) *mem.Mem {
	t.Helper()
	x, e := mem.New(m)
	if e != api.OK || x == nil {
		t.Fatal(x, e)
	}
	return x
}

// two is 16 plain bytes, a segment of 4 bytes and 3 pages, and one of 6 bytes and a page.
func two(t *testing.T) *mem.Mem {
	return fresh(t, api.Map{Ram: 16, Segs: []api.Seg{{Len: 4, Pages: 3}, {Len: 6, Pages: 1}}, Flash: [][]byte{{7, 8}, {1, 2, 3, 4, 5, 6}}})
}

func read(t *testing.T, m *mem.Mem, who, area uint8, at uint32, want ...byte) {
	t.Helper()
	if got, e := m.Read(who, area, at, len(want)); e != api.OK || !bytes.Equal(got, want) {
		t.Error(who, area, at, got, e, "not", want)
	}
}

func TestP8_1New(t *testing.T) {
	ok := api.Seg{Len: 1, Pages: 1}
	for i, x := range []struct {
		m api.Map
		e api.Errno
	}{
		{api.Map{}, api.OK},
		{api.Map{Ram: 1024}, api.OK},
		{api.Map{Ram: 1025}, api.ErrArg},
		{api.Map{Ram: -1}, api.ErrArg},
		{api.Map{Ram: math.MinInt}, api.ErrArg},
		{api.Map{Segs: []api.Seg{ok, ok, ok, {Len: 256, Pages: 4}}}, api.OK},
		{api.Map{Segs: []api.Seg{ok, ok, ok, ok, ok}}, api.ErrArg},
		{api.Map{Segs: []api.Seg{{Len: 0, Pages: 1}}}, api.ErrArg},
		{api.Map{Segs: []api.Seg{ok, {Len: 257, Pages: 1}}}, api.ErrArg},
		{api.Map{Segs: []api.Seg{{Len: -1, Pages: 1}}}, api.ErrArg},
		{api.Map{Segs: []api.Seg{{Len: 1, Pages: 0}}}, api.ErrArg},
		{api.Map{Segs: []api.Seg{{Len: 1, Pages: 5}}}, api.ErrArg},
		{api.Map{Segs: []api.Seg{{Len: 1, Pages: -1}}}, api.ErrArg},
		{api.Map{Flash: [][]byte{nil}}, api.ErrArg},
		{api.Map{Segs: []api.Seg{ok}, Flash: [][]byte{{1}, {}}}, api.ErrArg},
		{api.Map{Segs: []api.Seg{ok}, Flash: [][]byte{{1, 2}}}, api.ErrArg},
		{api.Map{Segs: []api.Seg{{Len: 2, Pages: 1}, ok}, Flash: [][]byte{{1, 2}, {1, 2}}}, api.ErrArg},
		{api.Map{Segs: []api.Seg{{Len: 2, Pages: 1}, ok}, Flash: [][]byte{{1, 2}, {1}}}, api.OK},
		{api.Map{Segs: []api.Seg{ok, ok}, Flash: [][]byte{{1}}}, api.OK},
	} {
		if m, e := mem.New(x.m); e != x.e || (m == nil) != (e != api.OK) {
			t.Error(i, m, e)
		}
	}
}

func TestP8_1AtFirst(t *testing.T) {
	flash := [][]byte{{7, 8}}
	m := fresh(t, api.Map{Ram: 3, Segs: []api.Seg{{Len: 4, Pages: 2}, {Len: 2, Pages: 1}}, Flash: flash})
	flash[0][0] = 99
	for _, who := range []uint8{api.App, api.Xcp} {
		read(t, m, who, 0, 0, 0, 0, 0)
		read(t, m, who, 1, 0, 7, 8, 0, 0)
		read(t, m, who, 2, 0, 0, 0)
		for seg := range 2 {
			if p, e := m.Page(who, seg); p != 0 || e != api.OK {
				t.Error(who, seg, p, e)
			}
		}
	}
	if e := m.Set(3, 0, 1); e != api.OK {
		t.Error(e)
	}
	read(t, m, api.App, 1, 0, 0, 0, 0, 0)
}

func TestP8_2Read(t *testing.T) {
	m := two(t)
	for i, x := range []struct {
		who, area uint8
		at        uint32
		n         int
		want      []byte
		e         api.Errno
	}{
		{api.App, 1, 0, 1, []byte{7}, api.OK},
		{api.Xcp, 2, 1, 3, []byte{2, 3, 4}, api.OK},
		{api.Xcp, 2, 0, 6, []byte{1, 2, 3, 4, 5, 6}, api.OK},
		{api.Xcp, 2, 6, 0, nil, api.OK},
		{api.Xcp, 0, 16, 0, nil, api.OK},
		{api.Xcp, 0, 15, 1, []byte{0}, api.OK},
		{0, 0, 0, 1, nil, api.ErrArg},
		{3, 0, 0, 1, nil, api.ErrArg},
		{255, 9, 0, 1, nil, api.ErrArg},
		{api.App, 0, 0, -1, nil, api.ErrArg},
		{api.App, 9, 0, math.MinInt, nil, api.ErrArg},
		{api.App, 3, 0, 0, nil, api.ErrAddr},
		{api.App, 255, 0, 0, nil, api.ErrAddr},
		{api.App, 0, 15, 2, nil, api.ErrAddr},
		{api.App, 0, 17, 0, nil, api.ErrAddr},
		{api.App, 2, 0, 7, nil, api.ErrAddr},
		{api.App, 2, 6, 1, nil, api.ErrAddr},
		{api.App, 0, math.MaxUint32, 1, nil, api.ErrAddr},
		{api.App, 0, math.MaxUint32, 0, nil, api.ErrAddr},
		{api.App, 0, 1, math.MaxInt, nil, api.ErrAddr},
		{api.App, 0, math.MaxUint32, math.MaxInt, nil, api.ErrAddr},
	} {
		if got, e := m.Read(x.who, x.area, x.at, x.n); e != x.e || !bytes.Equal(got, x.want) {
			t.Error(i, got, e)
		}
	}
	got, _ := m.Read(api.App, 2, 0, 2)
	got[0] = 99
	_ = append(got, 98)
	read(t, m, api.App, 2, 0, 1, 2, 3)
}

func TestP8_2Write(t *testing.T) {
	m := two(t)
	m.Set(api.Xcp, 0, 1)
	for i, x := range []struct {
		who, area uint8
		at        uint32
		b         []byte
		e         api.Errno
	}{
		{api.App, 0, 2, []byte{5, 6}, api.OK},
		{api.Xcp, 0, 14, []byte{1, 2}, api.OK},
		{api.Xcp, 0, 15, []byte{1, 2}, api.ErrAddr},
		{api.Xcp, 0, 16, nil, api.OK},
		{api.Xcp, 0, 17, nil, api.ErrAddr},
		{api.Xcp, 0, math.MaxUint32, []byte{1}, api.ErrAddr},
		{0, 0, 0, []byte{1}, api.ErrArg},
		{3, 9, 0, []byte{1}, api.ErrArg},
		{api.App, 1, 0, []byte{1}, api.ErrWrite},
		{api.App, 1, 0, nil, api.OK},
		{api.App, 1, 3, []byte{1, 2}, api.ErrAddr},
		{api.Xcp, 1, 0, []byte{1, 2, 3, 4}, api.OK},
		{api.Xcp, 1, 1, []byte{1, 2, 3, 4}, api.ErrAddr},
		{api.Xcp, 2, 0, []byte{1}, api.ErrWrite},
		{api.Xcp, 3, 0, nil, api.ErrAddr},
	} {
		if e := m.Write(x.who, x.area, x.at, x.b); e != x.e {
			t.Error(i, e)
		}
	}
	read(t, m, api.App, 0, 0, 0, 0, 5, 6, 0, 0, 0, 0, 0, 0, 0, 0, 0, 0, 1, 2)
	read(t, m, api.App, 1, 0, 7, 8, 0, 0)
	read(t, m, api.Xcp, 1, 0, 1, 2, 3, 4)
	read(t, m, api.Xcp, 2, 0, 1, 2, 3, 4, 5, 6)
}

func TestP8_2WriteKeepsNothing(t *testing.T) {
	m := two(t)
	b := []byte{1, 2, 3}
	m.Write(api.App, 0, 0, b[:2])
	b[0] = 99
	read(t, m, api.App, 0, 0, 1, 2, 0)
}

func TestP8_3PageAndSet(t *testing.T) {
	m := two(t)
	for i, x := range []struct {
		who       uint8
		seg, page int
		e         api.Errno
		app, xcp  int
	}{
		{api.App, 0, 1, api.OK, 1, 0},
		{api.Xcp, 0, 2, api.OK, 1, 2},
		{3, 0, 1, api.OK, 1, 1},
		{3, 0, 0, api.OK, 0, 0},
		{api.Xcp, 0, 1, api.OK, 0, 1},
		{0, 0, 2, api.ErrArg, 0, 1},
		{4, 0, 2, api.ErrArg, 0, 1},
		{5, 9, 9, api.ErrArg, 0, 1},
		{255, 0, 2, api.ErrArg, 0, 1},
		{1, 2, 0, api.ErrPage, 0, 1},
		{1, -1, 0, api.ErrPage, 0, 1},
		{1, 0, 3, api.ErrPage, 0, 1},
		{1, 0, -1, api.ErrPage, 0, 1},
		{1, 1, 1, api.ErrPage, 0, 1},
		{1, math.MaxInt, math.MinInt, api.ErrPage, 0, 1},
	} {
		if e := m.Set(x.who, x.seg, x.page); e != x.e {
			t.Error(i, e)
		}
		app, _ := m.Page(api.App, 0)
		xcp, _ := m.Page(api.Xcp, 0)
		if app != x.app || xcp != x.xcp {
			t.Error(i, app, xcp)
		}
	}
	for i, x := range []struct {
		who uint8
		seg int
		e   api.Errno
	}{{0, 0, api.ErrArg}, {3, 9, api.ErrArg}, {1, 2, api.ErrPage}, {2, -1, api.ErrPage}, {1, math.MinInt, api.ErrPage}} {
		if p, e := m.Page(x.who, x.seg); p != 0 || e != x.e {
			t.Error(i, p, e)
		}
	}
}

func TestP8_3Copy(t *testing.T) {
	m := two(t)
	for i, x := range []struct {
		seg, from, to int
		e             api.Errno
	}{
		{0, 0, 2, api.OK}, {0, 2, 2, api.OK}, {0, 2, 0, api.ErrWrite}, {0, 0, 0, api.ErrWrite},
		{0, 3, 1, api.ErrPage}, {0, 0, 3, api.ErrPage}, {0, -1, 1, api.ErrPage}, {0, 0, -1, api.ErrPage},
		{2, 0, 1, api.ErrPage}, {-1, 0, 1, api.ErrPage}, {0, 3, 0, api.ErrPage}, {2, 0, 0, api.ErrPage}, {1, 0, 1, api.ErrPage},
	} {
		if e := m.Copy(x.seg, x.from, x.to); e != x.e {
			t.Error(i, e)
		}
	}
	m.Set(api.App, 0, 2)
	read(t, m, api.App, 1, 0, 7, 8, 0, 0)
	m.Write(api.App, 1, 0, []byte{1})
	read(t, m, api.App, 1, 0, 1, 8, 0, 0)
	read(t, m, api.Xcp, 1, 0, 7, 8, 0, 0)
	m.Set(api.App, 0, 1)
	read(t, m, api.App, 1, 0, 0, 0, 0, 0)
	if e := m.Copy(0, 2, 1); e != api.OK {
		t.Error(e)
	}
	read(t, m, api.App, 1, 0, 1, 8, 0, 0)
}

func TestP8_3Clone(t *testing.T) {
	m := two(t)
	m.Set(api.Xcp, 0, 1)
	m.Write(api.Xcp, 1, 0, []byte{5})
	m.Write(api.App, 0, 0, []byte{6})
	c := m.Clone()
	read(t, c, api.Xcp, 1, 0, 5, 0, 0, 0)
	read(t, c, api.App, 1, 0, 7, 8, 0, 0)
	read(t, c, api.App, 0, 0, 6)
	m.Write(api.Xcp, 1, 0, []byte{50})
	m.Write(api.App, 0, 0, []byte{60})
	c.Write(api.App, 0, 1, []byte{61})
	c.Set(api.App, 0, 2)
	read(t, c, api.Xcp, 1, 0, 5)
	read(t, c, api.App, 0, 0, 6, 61)
	read(t, m, api.App, 0, 0, 60, 0)
	read(t, m, api.App, 1, 0, 7)
}

func TestP8_3NilMem(t *testing.T) {
	var m *mem.Mem
	b, e1 := m.Read(0, 0, 0, -1)
	p, e2 := m.Page(0, 0)
	if e1 != api.ErrNone || e2 != api.ErrNone || len(b) != 0 || p != 0 || m.Write(0, 0, 0, nil) != api.ErrNone || m.Set(0, 0, 0) != api.ErrNone || m.Copy(0, 0, 0) != api.ErrNone || m.Clone() != nil {
		t.Error("a nil Mem has memory")
	}
}

func TestP8_4FirstPagesStay(t *testing.T) {
	m := two(t)
	for _, who := range []uint8{api.App, api.Xcp} {
		for at := range uint32(6) {
			for area := range uint8(4) {
				m.Write(who, area, at, []byte{99})
			}
		}
	}
	for from := range 3 {
		m.Copy(0, from, 0)
		m.Copy(1, from, 0)
	}
	read(t, m, api.App, 1, 0, 7, 8, 0, 0)
	read(t, m, api.Xcp, 2, 0, 1, 2, 3, 4, 5, 6)
	read(t, m, api.Xcp, 0, 0, 99, 99, 99, 99, 99, 99, 0)
}
