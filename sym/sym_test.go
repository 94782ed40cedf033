package sym_test

import (
	"bytes"
	"math"
	"strconv"
	"strings"
	"sync"
	"testing"

	"calliper/api"
	"calliper/sym"
)

// speed is a name of memory that may be.
func speed() api.Sym { return api.Sym{Name: "speed", Area: 1, At: 2, Wide: 1, Mul: 2, Add: -10} }

func TestP18_1May(t *testing.T) {
	for i, x := range []struct {
		change func(s *api.Sym)
		want   bool
	}{
		{func(s *api.Sym) {}, true},
		{func(s *api.Sym) { s.Name = "" }, false},
		{func(s *api.Sym) { s.Name = strings.Repeat("x", 32) }, true},
		{func(s *api.Sym) { s.Name = strings.Repeat("x", 33) }, false},
		{func(s *api.Sym) { s.Name = strings.Repeat("é", 16) }, true},
		{func(s *api.Sym) { s.Name = strings.Repeat("é", 17) }, false},
		{func(s *api.Sym) { s.Name = "a b" }, false},
		{func(s *api.Sym) { s.Name = "a\n" }, false},
		{func(s *api.Sym) { s.Name = "\x00a" }, false},
		{func(s *api.Sym) { s.Name = "\x1f" }, false},
		{func(s *api.Sym) { s.Name = "!\x7f\xff\x80" }, true},
		{func(s *api.Sym) { s.Wide = 0 }, false},
		{func(s *api.Sym) { s.Wide = 2 }, true},
		{func(s *api.Sym) { s.Wide = 3 }, false},
		{func(s *api.Sym) { s.Wide = 4 }, true},
		{func(s *api.Sym) { s.Wide = 8 }, false},
		{func(s *api.Sym) { s.Wide = -1 }, false},
		{func(s *api.Sym) { s.Mul = 0 }, false},
		{func(s *api.Sym) { s.Mul = 1 << 24 }, true},
		{func(s *api.Sym) { s.Mul = 1<<24 + 1 }, false},
		{func(s *api.Sym) { s.Mul = -1 << 24 }, true},
		{func(s *api.Sym) { s.Mul = -1<<24 - 1 }, false},
		{func(s *api.Sym) { s.Mul = math.MinInt32 }, false},
		{func(s *api.Sym) { s.Add = math.MinInt32; s.At = math.MaxUint32; s.Area = 255 }, true},
	} {
		s := speed()
		x.change(&s)
		if got := sym.May(s); got != x.want {
			t.Error(i, got)
		}
		tab, e := sym.New([]api.Sym{s})
		if (e == api.OK) != x.want || (tab != nil) != x.want || !x.want && e != api.ErrArg {
			t.Error(i, e)
		}
	}
}

// named is n names of memory.
func named(n int) []api.Sym {
	var l []api.Sym
	for i := range n {
		s := speed()
		s.Name = "s" + strconv.Itoa(i)
		s.At = uint32(i)
		l = append(l, s)
	}
	return l
}

func TestP18_1New(t *testing.T) {
	twice, bad, both := named(9), named(65), named(9)
	twice[8].Name = "s3"
	bad[3].Mul = 0
	both[1].Name, both[8].Wide = "s0", 9
	for i, x := range []struct {
		l []api.Sym
		e api.Errno
	}{{nil, api.OK}, {named(64), api.OK}, {named(65), api.ErrLong}, {bad, api.ErrLong}, {bad[:64], api.ErrArg}, {twice, api.ErrThere}, {both, api.ErrArg}, {twice[:8], api.OK}} {
		if tab, e := sym.New(x.l); e != x.e || (tab != nil) != (e == api.OK) {
			t.Error(i, e)
		}
	}
}

func TestP18_1Find(t *testing.T) {
	l := named(64)
	tab, e := sym.New(l)
	if e != api.OK {
		t.Fatal(e)
	}
	want := named(64)
	l[5].Name, l[6].At = "changed", 99
	for i, x := range want {
		if s, ok := tab.Find(x.Name); !ok || s != x {
			t.Error(i, s, ok)
		}
	}
	for _, name := range []string{"", "s", "S1", "s64", "s1 ", "changed"} {
		if s, ok := tab.Find(name); ok || s != (api.Sym{}) {
			t.Error(name, s)
		}
	}
	var none *sym.Table
	if s, ok := none.Find("s1"); ok || s != (api.Sym{}) {
		t.Error(s)
	}
}

func TestP18_1FindBySeveralAtOnce(t *testing.T) {
	tab, _ := sym.New(named(64))
	var wg sync.WaitGroup
	found := make([]int, 8)
	for g := range found {
		wg.Go(func() {
			for i := range 640 {
				if s, ok := tab.Find("s" + strconv.Itoa(i%64)); ok && s.At == uint32(i%64) {
					found[g]++
				}
			}
		})
	}
	wg.Wait()
	for g, n := range found {
		if n != 640 {
			t.Error(g, n)
		}
	}
}

func TestP18_2PutAndTake(t *testing.T) {
	for i, x := range []struct {
		s    api.Sym
		v    int64
		want []byte
	}{
		{api.Sym{Wide: 1, Mul: 2, Add: -10}, 4, []byte{7}},
		{api.Sym{Wide: 1, Mul: 2, Add: -10}, -10, []byte{0}},
		{api.Sym{Wide: 1, Mul: 2, Add: -10}, 500, []byte{255}},
		{api.Sym{Wide: 1, Mul: -3, Add: 1, Signed: true}, -380, []byte{127}},
		{api.Sym{Wide: 1, Mul: -3, Add: 1, Signed: true}, 385, []byte{128}},
		{api.Sym{Wide: 2, Mul: 1, Big: true}, 258, []byte{1, 2}},
		{api.Sym{Wide: 2, Mul: 1}, 258, []byte{2, 1}},
		{api.Sym{Wide: 2, Mul: 1, Signed: true, Big: true}, -2, []byte{255, 254}},
		{api.Sym{Wide: 4, Mul: 1 << 24, Add: math.MaxInt32}, (1<<32-1)<<24 + math.MaxInt32, []byte{255, 255, 255, 255}},
		{api.Sym{Wide: 4, Mul: -1 << 24, Add: math.MinInt32}, -(1<<32-1)<<24 + math.MinInt32, []byte{255, 255, 255, 255}},
		{api.Sym{Wide: 4, Mul: 1 << 24, Signed: true}, math.MinInt32 << 24, []byte{0, 0, 0, 128}},
		{api.Sym{Wide: 4, Mul: 1, Big: true}, 0x01020304, []byte{1, 2, 3, 4}},
	} {
		x.s.Name = "x"
		if got, e := sym.Put(x.s, x.v); e != api.OK || !bytes.Equal(got, x.want) {
			t.Error(i, got, e)
		}
		if got, e := sym.Take(x.s, x.want); e != api.OK || got != x.v {
			t.Error(i, got, e)
		}
	}
}

func TestP18_2PutRefuses(t *testing.T) {
	for i, x := range []struct {
		s api.Sym
		v int64
	}{
		{api.Sym{Wide: 1, Mul: 2, Add: -10}, 5},
		{api.Sym{Wide: 1, Mul: 2, Add: -10}, -12},
		{api.Sym{Wide: 1, Mul: 2, Add: -10}, 502},
		{api.Sym{Wide: 1, Mul: 1, Signed: true}, 128},
		{api.Sym{Wide: 1, Mul: 1, Signed: true}, -129},
		{api.Sym{Wide: 1, Mul: 1}, -1},
		{api.Sym{Wide: 2, Mul: 1}, 65536},
		{api.Sym{Wide: 4, Mul: 1}, 1 << 32},
		{api.Sym{Wide: 4, Mul: 1 << 24}, 1},
		{api.Sym{Wide: 4, Mul: 1, Add: 1}, math.MinInt64},
		{api.Sym{Wide: 4, Mul: -1, Add: 0, Signed: true}, math.MinInt64},
		{api.Sym{Wide: 4, Mul: 1, Add: -1}, math.MaxInt64},
		{api.Sym{Wide: 4, Mul: 1, Add: math.MinInt32}, math.MaxInt64},
		{api.Sym{Wide: 4, Mul: -1, Add: math.MaxInt32}, math.MinInt64},
		{api.Sym{Wide: 3, Mul: 1}, 0},
		{api.Sym{Wide: 1, Mul: 0}, 0},
	} {
		x.s.Name = "x"
		if got, e := sym.Put(x.s, x.v); e != api.ErrArg || len(got) != 0 {
			t.Error(i, got, e)
		}
	}
	if got, e := sym.Put(api.Sym{Wide: 1, Mul: 1}, 0); e != api.ErrArg || len(got) != 0 {
		t.Error("without a name", got, e)
	}
}

func TestP18_2TakeRefuses(t *testing.T) {
	for _, wide := range []int{1, 2, 4} {
		for n := range 9 {
			s := speed()
			s.Wide = wide
			got, e := sym.Take(s, make([]byte, n))
			if n == wide && (e != api.OK || got != -10) || n != wide && (e != api.ErrShort || got != 0) {
				t.Error(wide, n, got, e)
			}
		}
	}
	bad := speed()
	bad.Wide = 8
	for _, n := range []int{0, 8} {
		if got, e := sym.Take(bad, make([]byte, n)); got != 0 || e != api.ErrArg {
			t.Error(n, got, e)
		}
	}
}

func TestP18_3PutIsTaken(t *testing.T) {
	for _, wide := range []int{1, 2, 4} {
		for _, big := range []bool{false, true} {
			for _, signed := range []bool{false, true} {
				for _, mul := range []int32{1, -1, 3, -7, 1 << 24, -1 << 24} {
					for _, add := range []int32{0, 5, -9, math.MaxInt32, math.MinInt32} {
						s := api.Sym{Name: "x", Wide: wide, Big: big, Signed: signed, Mul: mul, Add: add}
						for _, b := range [][]byte{{0, 0, 0, 0}, {1, 2, 3, 4}, {127, 255, 255, 255}, {128, 0, 0, 0}, {255, 254, 253, 252}} {
							v, e := sym.Take(s, b[:wide])
							got, e2 := sym.Put(s, v)
							if e != api.OK || e2 != api.OK || !bytes.Equal(got, b[:wide]) {
								t.Error(s, b[:wide], v, got, e, e2)
							}
						}
					}
				}
			}
		}
	}
}
