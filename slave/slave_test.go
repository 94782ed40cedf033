package slave_test

import (
	"bytes"
	"testing"

	"calliper/api"
	"calliper/cmd"
	"calliper/lock"
	"calliper/mem"
	"calliper/rep"
	"calliper/slave"
	"calliper/sum"
)

// rig is a slave, and what it works on.
type rig struct {
	t *testing.T
	m *mem.Mem
	l *lock.Lock
	s *slave.Slave
}

// fresh is a slave that is on, of 64 plain bytes and a segment of 8 bytes and 2 pages, with resources locked.
func fresh(t *testing.T, res uint8) rig {
	t.Helper()
	m, e := mem.New(api.Map{Ram: 64, Segs: []api.Seg{{Len: 8, Pages: 2}}, Flash: [][]byte{{1, 2, 3, 4, 5, 6, 7, 8}}})
	l := lock.New(res)
	s, e2 := slave.New(m, l)
	if e != api.OK || e2 != api.OK {
		t.Fatal(e, e2)
	}
	r := rig{t, m, l, s}
	r.pos(c(api.Connect, 0), 13, 8, 8)
	return r
}

// c is a command of small numbers.
func c(code uint8, a ...uint8) api.Cmd {
	x := api.Cmd{Code: code}
	copy(x.A[:], a)
	return x
}

// w is one with a great number, too.
func w(code uint8, w uint32, a ...uint8) api.Cmd {
	x := c(code, a...)
	x.W = w
	return x
}

// down is one of bytes, a number ahead of them (-1: none).
func down(code uint8, n int, b ...byte) api.Cmd {
	x := api.Cmd{Code: code, B: b}
	if n >= 0 {
		x.A[0] = uint8(n)
	}
	return x
}

func (r rig) do(x api.Cmd) []api.Rep {
	r.t.Helper()
	l, e := r.s.Do(x, []byte{1, 2})
	if e != api.OK {
		r.t.Error(x, e)
	}
	return l
}

// is holds answers against those that are wanted.
func (r rig) is(x api.Cmd, want ...api.Rep) {
	r.t.Helper()
	got := r.do(x)
	same := len(got) == len(want)
	for i := 0; same && i < len(got); i++ {
		same = got[i].Kind == want[i].Kind && got[i].Code == want[i].Code && bytes.Equal(got[i].B, want[i].B)
	}
	if !same {
		r.t.Error(x, got, "not", want)
	}
}

func (r rig) pos(x api.Cmd, b ...byte) {
	r.t.Helper()
	r.is(x, api.Rep{Kind: api.Pos, B: b})
}

func (r rig) neg(x api.Cmd, e api.Errno) {
	r.t.Helper()
	r.is(x, api.Rep{Kind: api.Neg, Code: rep.Code(e)})
}

func (r rig) mta(area uint8, at uint32) {
	r.t.Helper()
	if a, x := r.s.Mta(); a != area || x != at {
		r.t.Error("Mta", a, x, "not", area, at)
	}
}

func (r rig) ram(at uint32, want ...byte) {
	r.t.Helper()
	if got, e := r.m.Read(api.App, 0, at, len(want)); e != api.OK || !bytes.Equal(got, want) {
		r.t.Error("at", at, got, "not", want)
	}
}

func TestP10_1New(t *testing.T) {
	m, _ := mem.New(api.Map{})
	for i, x := range []struct {
		m *mem.Mem
		l *lock.Lock
	}{{nil, nil}, {m, nil}, {nil, lock.New(0)}} {
		if s, e := slave.New(x.m, x.l); s != nil || e != api.ErrArg {
			t.Error(i, s, e)
		}
	}
	s, e := slave.New(m, lock.New(0))
	if e != api.OK || s.On() {
		t.Error(e)
	}
	if a, at := s.Mta(); a != 0 || at != 0 {
		t.Error(a, at)
	}
}

func TestP10_2Errors(t *testing.T) {
	r := fresh(t, 0)
	for i, x := range []api.Cmd{{}, {Code: 27}, {Code: 255}, {Code: api.Status, W: 1}, down(api.Download, 2, 1), {Code: api.FreeDaq, W: 1}} {
		if l, e := r.s.Do(x, nil); len(l) != 0 || e != api.ErrArg {
			t.Error(i, l, e)
		}
	}
	for code := api.FreeDaq; code <= api.StartAll; code++ {
		x := api.Cmd{Code: code}
		if l, e := r.s.Do(x, nil); len(l) != 0 || e != api.ErrMine {
			t.Error(code, l, e)
		}
	}
}

func TestP10_2Off(t *testing.T) {
	m, _ := mem.New(api.Map{Ram: 64})
	l := lock.New(0)
	s, _ := slave.New(m, l)
	r := rig{t, m, l, s}
	for code := api.Disconnect; code < api.FreeDaq; code++ {
		x := api.Cmd{Code: code}
		if code == api.DownMax {
			x.B = make([]byte, 7)
		}
		if r.is(x); s.On() {
			t.Error("on", code)
		}
	}
	r.is(w(api.SetMta, 9, 1))
	r.mta(0, 0)
	if _, e := s.Do(api.Cmd{Code: api.FreeDaq}, nil); e != api.ErrMine {
		t.Error(e)
	}
	if _, e := s.Do(api.Cmd{}, nil); e != api.ErrArg {
		t.Error(e)
	}
	r.pos(c(api.Connect, 7), 13, 8, 8)
	if !s.On() {
		t.Error("off")
	}
}

func TestP10_2OtherCommandsCloseABlock(t *testing.T) {
	next := down(api.DownNext, 2, 7, 8)
	for _, x := range []api.Cmd{c(api.Status), c(api.Synch), c(api.Upload, 0), w(api.SetMta, 0, 0), c(api.Connect, 0), down(api.Download, 1, 1)} {
		r := fresh(t, 0)
		r.is(down(api.Download, 8, 1, 2, 3, 4, 5, 6))
		r.do(x)
		r.neg(next, api.ErrSeq)
	}
	for _, x := range []api.Cmd{{}, {Code: api.FreeDaq}, {Code: api.Status, W: 1}, {Code: api.DownNext, W: 1}} {
		r := fresh(t, 0)
		r.is(down(api.Download, 8, 1, 2, 3, 4, 5, 6))
		if _, e := r.s.Do(x, nil); e == api.OK {
			t.Error(x)
		}
		r.pos(next)
		r.ram(0, 1, 2, 3, 4, 5, 6, 7, 8)
	}
}

func TestP10_3Connections(t *testing.T) {
	r := fresh(t, 5)
	r.pos(c(api.Status), 5)
	r.pos(c(api.Seed, 0, 1), 2, 1, 2)
	r.pos(down(api.Unlock, 2, lock.Key([]byte{1, 2}, 1)...), 4)
	r.pos(c(api.Status), 4)
	r.pos(w(api.SetMta, 300, 1))
	r.mta(1, 300)
	r.pos(c(api.Connect, 0), 13, 8, 8)
	r.mta(0, 0)
	r.pos(c(api.Status), 5)
	r.pos(w(api.SetMta, 300, 1))
	r.pos(c(api.Seed, 0, 4), 2, 1, 2)
	r.pos(down(api.Unlock, 2, lock.Key([]byte{1, 2}, 4)...), 1)
	r.pos(c(api.Disconnect))
	if r.s.On() || r.l.Locked() != 5 {
		t.Error("on, or unlocked", r.l.Locked())
	}
	r.mta(1, 300)
	r.is(c(api.Status))
	r.is(c(api.Disconnect))
}

func TestP10_3Synch(t *testing.T) {
	r := fresh(t, 0)
	r.is(c(api.Synch), api.Rep{Kind: api.Neg, Code: 100})
	if !r.s.On() {
		t.Error("off")
	}
}

func TestP10_3SeedAndUnlock(t *testing.T) {
	r := fresh(t, 13)
	draw := []byte{9, 8, 7, 6, 5, 4, 3, 2}
	one := func(x api.Cmd, want ...byte) {
		t.Helper()
		l, e := r.s.Do(x, draw)
		if e != api.OK || len(l) != 1 || l[0].Kind != api.Pos || !bytes.Equal(l[0].B, want) {
			t.Error(x, l, e)
		}
	}
	one(c(api.Seed, 0, 8), 8, 9, 8, 7, 6, 5, 4)
	one(c(api.Seed, 1, 8), 2, 3, 2)
	key := lock.Key(draw, 8)
	one(down(api.Unlock, 8, key[:6]...), 13)
	one(down(api.Unlock, 2, key[6:]...), 5)
	one(c(api.Seed, 0, 8), 0)
	r.neg(c(api.Seed, 0, 3), api.ErrArg)
	r.neg(c(api.Seed, 1, 1), api.ErrSeq)
	r.neg(c(api.Seed, 2, 1), api.ErrArg)
	r.neg(down(api.Unlock, 2, 1, 2), api.ErrSeq)
	r.pos(c(api.Seed, 0, 1), 2, 1, 2)
	r.neg(down(api.Unlock, 2, 1, 2), api.ErrKey)
	if l, _ := r.s.Do(c(api.Seed, 0, 1), nil); len(l) != 1 || l[0].Code != 1 {
		t.Error("no draw", l)
	}
}

func TestP10_4Upload(t *testing.T) {
	r := fresh(t, 13)
	for i := range 64 {
		r.m.Write(api.App, 0, uint32(i), []byte{byte(i + 100)})
	}
	r.neg(c(api.Upload, 0), api.ErrArg)
	r.pos(c(api.Upload, 1), 100)
	r.mta(0, 1)
	r.pos(c(api.Upload, 7), 101, 102, 103, 104, 105, 106, 107)
	r.mta(0, 8)
	r.is(c(api.Upload, 16), api.Rep{Kind: api.Pos, B: []byte{108, 109, 110, 111, 112, 113, 114}}, api.Rep{Kind: api.Pos, B: []byte{115, 116, 117, 118, 119, 120, 121}}, api.Rep{Kind: api.Pos, B: []byte{122, 123}})
	r.mta(0, 24)
	r.neg(c(api.Upload, 41), api.ErrAddr)
	r.mta(0, 24)
	if l := r.do(c(api.Upload, 40)); len(l) != 6 || len(l[5].B) != 5 {
		t.Error(l)
	}
	r.mta(0, 64)
	r.pos(w(api.SetMta, 6, 1))
	r.pos(c(api.Upload, 2), 7, 8)
	r.pos(w(api.SetMta, 1<<32-1, 0))
	r.neg(c(api.Upload, 1), api.ErrAddr)
	r.pos(w(api.SetMta, 0, 2))
	r.neg(c(api.Upload, 1), api.ErrAddr)
}

func TestP10_4UploadIsNewMemory(t *testing.T) {
	r := fresh(t, 0)
	l := r.do(c(api.Upload, 9))
	_ = append(l[0].B, 99)
	l[0].B[0] = 98
	if l[1].B[0] != 0 {
		t.Error("shared", l)
	}
	r.ram(0, 0)
}

func TestP10_4XcpReads(t *testing.T) {
	r := fresh(t, 0)
	r.m.Set(api.Xcp, 0, 1)
	r.m.Write(api.Xcp, 1, 0, []byte{77})
	r.pos(w(api.ShortUp, 0, 1, 1), 77)
}

func TestP10_4ShortUp(t *testing.T) {
	r := fresh(t, 13)
	r.pos(w(api.ShortUp, 1, 7, 1), 2, 3, 4, 5, 6, 7, 8)
	r.mta(1, 8)
	r.pos(w(api.ShortUp, 4, 1, 1), 5)
	r.mta(1, 5)
	r.neg(w(api.ShortUp, 0, 0, 0), api.ErrArg)
	r.neg(w(api.ShortUp, 0, 8, 0), api.ErrArg)
	r.mta(1, 5)
	r.neg(w(api.ShortUp, 60, 5, 0), api.ErrAddr)
	r.mta(0, 60)
}

func TestP10_4Checksum(t *testing.T) {
	r := fresh(t, 13)
	r.m.Write(api.App, 0, 4, []byte("123456789"))
	r.pos(w(api.SetMta, 4, 0))
	r.pos(w(api.Checksum, 9, api.Crc32), api.Crc32, 0xcb, 0xf4, 0x39, 0x26)
	r.mta(0, 13)
	r.pos(w(api.Checksum, 0, api.Add11), api.Add11, 0, 0, 0, 0)
	r.mta(0, 13)
	r.pos(w(api.SetMta, 4, 0))
	want, _ := sum.Of(api.Add22, []byte("12345678"), true)
	r.pos(w(api.Checksum, 8, api.Add22), api.Add22, 0, 0, byte(want>>8), byte(want))
	r.mta(0, 12)
	r.neg(w(api.Checksum, 3, api.Add22), api.ErrShort)
	r.neg(w(api.Checksum, 3, 0), api.ErrArg)
	r.neg(w(api.Checksum, 53, 0), api.ErrAddr)
	r.neg(w(api.Checksum, 1025, api.Add11), api.ErrArg)
	r.neg(w(api.Checksum, 1024, api.Add11), api.ErrAddr)
	r.neg(w(api.Checksum, 1<<32-1, api.Add11), api.ErrArg)
	r.mta(0, 12)
	r.pos(w(api.Checksum, 52, api.Add12), api.Add12, 0, 0, 0, '9')
	r.mta(0, 64)
}

func TestP10_4ChecksumOfMost(t *testing.T) {
	m, _ := mem.New(api.Map{Ram: 1024})
	s, _ := slave.New(m, lock.New(0))
	m.Write(api.App, 0, 1023, []byte{5})
	r := rig{t, m, nil, s}
	r.do(c(api.Connect, 0))
	r.pos(w(api.Checksum, 1024, api.Add11), api.Add11, 0, 0, 0, 5)
	r.mta(0, 1024)
}

func TestP10_5Locked(t *testing.T) {
	for _, res := range []uint8{1, 13} {
		r := fresh(t, res)
		for _, x := range []api.Cmd{down(api.Download, 1, 9), down(api.Download, 42, 1, 2, 3, 4, 5, 6), down(api.DownMax, -1, 1, 2, 3, 4, 5, 6, 7), w(api.Modify, 1, 0), c(api.SetPage, 3, 0, 1), c(api.CopyPage, 0, 0, 1), c(api.SetPage, 9, 9, 9), c(api.CopyPage, 9, 9, 9)} {
			r.neg(x, api.ErrLocked)
		}
		r.neg(down(api.DownNext, 2, 1, 2), api.ErrSeq)
		r.neg(down(api.Download, 0), api.ErrArg)
		r.neg(down(api.Download, 43, 1, 2, 3, 4, 5, 6), api.ErrArg)
		r.neg(w(api.Modify, 1, 32), api.ErrArg)
		r.mta(0, 0)
		r.ram(0, 0, 0, 0, 0, 0, 0, 0, 0)
	}
	r := fresh(t, 12)
	r.pos(down(api.Download, 1, 9))
	r.ram(0, 9)
}

func TestP10_5LockedGoesAheadOfAddresses(t *testing.T) {
	r := fresh(t, 1)
	for _, area := range []uint8{0, 1, 9} {
		r.pos(w(api.SetMta, 1<<20, area))
		r.neg(down(api.Download, 1, 9), api.ErrLocked)
		r.neg(down(api.DownMax, -1, 1, 2, 3, 4, 5, 6, 7), api.ErrLocked)
		r.neg(w(api.Modify, 1, 0), api.ErrLocked)
		r.mta(area, 1<<20)
	}
}

func TestP10_5Download(t *testing.T) {
	r := fresh(t, 0)
	r.pos(w(api.SetMta, 4, 0))
	r.pos(down(api.Download, 2, 7, 9))
	r.pos(w(api.ShortUp, 4, 2, 0), 7, 9)
	r.mta(0, 6)
	r.pos(down(api.Download, 6, 1, 2, 3, 4, 5, 6))
	r.ram(4, 7, 9, 1, 2, 3, 4, 5, 6, 0)
	r.mta(0, 12)
	r.neg(down(api.DownNext, 0), api.ErrSeq)
	r.neg(down(api.Download, 0), api.ErrArg)
	r.neg(down(api.Download, 255, 1, 2, 3, 4, 5, 6), api.ErrArg)
	r.mta(0, 12)
	r.pos(w(api.SetMta, 63, 0))
	r.neg(down(api.Download, 2, 1, 2), api.ErrAddr)
	r.mta(0, 63)
	r.ram(63, 0)
	r.pos(w(api.SetMta, 0, 1))
	r.neg(down(api.Download, 1, 1), api.ErrWrite)
}

func TestP10_5Blocks(t *testing.T) {
	for n := 7; n <= 42; n++ {
		r := fresh(t, 0)
		r.is(down(api.Download, n, 0, 1, 2, 3, 4, 5))
		left := n - 6
		for left > 0 {
			part := min(left, 6)
			var b []byte
			for i := range part {
				b = append(b, byte(n-left+i))
			}
			if left <= 6 {
				r.pos(down(api.DownNext, left, b...))
			} else {
				r.is(down(api.DownNext, left, b...))
			}
			left -= part
		}
		r.mta(0, uint32(n))
		var want []byte
		for i := range n {
			want = append(want, byte(i))
		}
		r.ram(0, append(want, 0)...)
		r.neg(down(api.DownNext, 1, 1), api.ErrSeq)
	}
}

func TestP10_5WrongDownNextClosesABlock(t *testing.T) {
	right := down(api.DownNext, 9, 1, 2, 3, 4, 5, 6)
	for _, x := range []api.Cmd{down(api.DownNext, 0), down(api.DownNext, 8, 1, 2, 3, 4, 5, 6), down(api.DownNext, 10, 1, 2, 3, 4, 5, 6), down(api.DownNext, 3, 1, 2, 3)} {
		r := fresh(t, 0)
		r.is(down(api.Download, 15, 1, 2, 3, 4, 5, 6))
		r.neg(x, api.ErrSeq)
		r.neg(right, api.ErrSeq)
		r.mta(0, 6)
	}
	r := fresh(t, 0)
	r.pos(w(api.SetMta, 58, 0))
	r.is(down(api.Download, 15, 1, 2, 3, 4, 5, 6))
	r.neg(right, api.ErrAddr)
	r.neg(right, api.ErrSeq)
	r.mta(0, 64)
}

func TestP10_5FailedDownloadOpensNoBlock(t *testing.T) {
	r := fresh(t, 0)
	r.pos(w(api.SetMta, 60, 0))
	r.neg(down(api.Download, 8, 1, 2, 3, 4, 5, 6), api.ErrAddr)
	r.neg(down(api.DownNext, 2, 1, 2), api.ErrSeq)
}

func TestP10_5DownMax(t *testing.T) {
	r := fresh(t, 0)
	r.pos(down(api.DownMax, -1, 1, 2, 3, 4, 5, 6, 7))
	r.mta(0, 7)
	r.pos(down(api.DownMax, -1, 8, 9, 10, 11, 12, 13, 14))
	r.ram(0, 1, 2, 3, 4, 5, 6, 7, 8, 9, 10, 11, 12, 13, 14, 0)
	r.pos(w(api.SetMta, 58, 0))
	r.neg(down(api.DownMax, -1, 1, 2, 3, 4, 5, 6, 7), api.ErrAddr)
	r.mta(0, 58)
}

func TestP10_5Modify(t *testing.T) {
	for i, x := range []struct {
		was   []byte
		shift uint8
		w     uint32
		want  []byte
	}{
		{[]byte{1, 2, 3, 4}, 0, 0xffff0000, []byte{1, 2, 3, 4}},
		{[]byte{1, 2, 3, 4}, 0, 0x00000000, []byte{1, 2, 0, 0}},
		{[]byte{1, 2, 3, 4}, 16, 0x00000000, []byte{0, 0, 3, 4}},
		{[]byte{1, 2, 3, 4}, 8, 0xff00aa55, []byte{1, 2 ^ 0xaa, 0x55, 4}},
		{[]byte{255, 255, 255, 255}, 31, 0xfffe0000, []byte{127, 255, 255, 255}},
		{[]byte{255, 255, 255, 255}, 31, 0xfffeffff, []byte{255, 255, 255, 255}},
		{[]byte{255, 255, 255, 255}, 4, 0xfff0000f, []byte{255, 255, 255, 255}},
		{[]byte{0, 0, 0, 0}, 24, 0xffffabcd, []byte{0xcd, 0, 0, 0}},
		{[]byte{0xf0, 0xf0, 0xf0, 0xf0}, 0, 0xffffffff, []byte{0xf0, 0xf0, 0x0f, 0x0f}},
	} {
		r := fresh(t, 0)
		r.m.Write(api.App, 0, 5, x.was)
		r.pos(w(api.SetMta, 5, 0))
		r.pos(w(api.Modify, x.w, x.shift))
		r.mta(0, 5)
		if got, _ := r.m.Read(api.App, 0, 4, 6); !bytes.Equal(got, append(append([]byte{0}, x.want...), 0)) {
			t.Error(i, got)
		}
	}
	r := fresh(t, 0)
	r.neg(w(api.Modify, 0, 32), api.ErrArg)
	r.pos(w(api.SetMta, 61, 0))
	r.neg(w(api.Modify, 0, 0), api.ErrAddr)
	r.mta(0, 61)
	r.pos(w(api.SetMta, 0, 1))
	r.neg(w(api.Modify, 0, 0), api.ErrWrite)
}

func TestP10_6Pages(t *testing.T) {
	r := fresh(t, 0)
	r.pos(c(api.GetPage, 1, 0), 0)
	r.pos(c(api.SetPage, 2, 0, 1))
	r.pos(c(api.GetPage, 1, 0), 0)
	r.pos(c(api.GetPage, 2, 0), 1)
	r.pos(c(api.CopyPage, 0, 0, 1))
	r.pos(w(api.ShortUp, 0, 3, 1), 1, 2, 3)
	r.pos(w(api.SetMta, 0, 1))
	r.pos(down(api.Download, 1, 9))
	r.pos(w(api.ShortUp, 0, 3, 1), 9, 2, 3)
	r.pos(c(api.SetPage, 3, 0, 0))
	r.pos(w(api.ShortUp, 0, 3, 1), 1, 2, 3)
	r.neg(c(api.SetPage, 4, 0, 0), api.ErrArg)
	r.neg(c(api.SetPage, 1, 1, 0), api.ErrPage)
	r.neg(c(api.SetPage, 1, 0, 2), api.ErrPage)
	r.neg(c(api.GetPage, 3, 0), api.ErrArg)
	r.neg(c(api.GetPage, 1, 9), api.ErrPage)
	r.neg(c(api.CopyPage, 0, 1, 0), api.ErrWrite)
	r.neg(c(api.CopyPage, 0, 2, 0), api.ErrPage)
	r.neg(c(api.CopyPage, 1, 0, 1), api.ErrPage)
	locked := fresh(t, 1)
	locked.pos(c(api.GetPage, 2, 0), 0)
}

func TestP10_6NilSlave(t *testing.T) {
	var s *slave.Slave
	l, e := s.Do(api.Cmd{Code: api.Connect}, nil)
	a, at := s.Mta()
	if len(l) != 0 || e != api.ErrNone || s.On() || a != 0 || at != 0 {
		t.Error(l, e)
	}
	if _, e := s.Do(api.Cmd{}, nil); e != api.ErrNone {
		t.Error(e)
	}
}

func TestP10_7LockedMemoryStays(t *testing.T) {
	r := fresh(t, 1)
	r.m.Write(api.App, 0, 0, []byte{5, 6, 7, 8})
	for code := range 40 {
		for _, a := range []uint8{0, 1, 2, 3, 4, 6, 7, 8, 42} {
			for _, b := range []uint8{0, 1, 2} {
				small, great, n, _ := cmd.Shape(uint8(code))
				x := api.Cmd{Code: uint8(code)}
				copy(x.A[:small], []uint8{a, b, 1})
				if great {
					x.W = uint32(b)
				}
				if small > 0 {
					n = min(n, int(a))
				}
				x.B = bytes.Repeat([]byte{9}, n)
				r.s.Do(x, []byte{1})
				if code == int(api.Disconnect) {
					r.do(c(api.Connect, 0))
				}
			}
		}
	}
	r.ram(0, 5, 6, 7, 8, 0, 0, 0, 0)
	for _, who := range []uint8{api.App, api.Xcp} {
		if p, _ := r.m.Page(who, 0); p != 0 {
			t.Error(who, p)
		}
	}
	r.m.Set(3, 0, 1)
	if got, _ := r.m.Read(api.App, 1, 0, 8); !bytes.Equal(got, make([]byte, 8)) {
		t.Error(got)
	}
}
