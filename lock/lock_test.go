package lock_test

import (
	"bytes"
	"math"
	"testing"

	"calliper/api"
	"calliper/lock"
)

// draw is n bytes that differ.
func draw(n int) []byte {
	var b []byte
	for i := range n {
		b = append(b, byte(17*i+3))
	}
	return b
}

// whole tells a whole seed of a resource.
func whole(t *testing.T, l *lock.Lock, res uint8, seed []byte) {
	t.Helper()
	left, part, e := l.Seed(0, res, seed)
	for left > 6 && e == api.OK {
		var n int
		var more []byte
		n, more, e = l.Seed(1, 0, nil)
		if n != left-6 {
			t.Error("left", n, left)
		}
		left, part = n, append(part, more...)
	}
	if e != api.OK || !bytes.Equal(part, seed) {
		t.Fatal(part, e)
	}
}

// give gives bytes as a key, part by part, and is the last part's error.
func give(t *testing.T, l *lock.Lock, key []byte) api.Errno {
	t.Helper()
	for len(key) > 6 {
		if e := l.Unlock(len(key), key[:6]); e != api.OK {
			t.Fatal(key, e)
		}
		key = key[6:]
	}
	return l.Unlock(len(key), key)
}

func TestP9_1Key(t *testing.T) {
	for i, x := range []struct {
		seed []byte
		res  uint8
		want []byte
	}{
		{nil, 4, nil},
		{[]byte{1, 2}, 4, []byte{2 ^ 238, 1 ^ 249}},
		{[]byte{5}, 1, []byte{5 ^ 127}},
		{[]byte{0, 0, 0}, 255, []byte{53, 64, 75}},
		{[]byte{1, 2, 3, 4}, 0, []byte{2 ^ 90, 3 ^ 101, 4 ^ 112, 1 ^ 123}},
	} {
		if got := lock.Key(x.seed, x.res); !bytes.Equal(got, x.want) {
			t.Error(i, got)
		}
	}
	seed := draw(300)
	key := lock.Key(seed, 8)
	for i := range seed {
		if want := seed[(i+1)%300] ^ byte((37*8+11*i+90)%256); key[i] != want {
			t.Error(i, key[i], want)
		}
	}
	if !bytes.Equal(seed, draw(300)) {
		t.Error("changed")
	}
}

func TestP9_2New(t *testing.T) {
	for res := range 256 {
		if got := lock.New(uint8(res)).Locked(); got != uint8(res)&13 {
			t.Error(res, got)
		}
	}
}

func TestP9_2Relock(t *testing.T) {
	l := lock.New(5)
	whole(t, l, 4, draw(2))
	if e := give(t, l, lock.Key(draw(2), 4)); e != api.OK || l.Locked() != 1 {
		t.Error(e, l.Locked())
	}
	l.Relock()
	if l.Locked() != 5 {
		t.Error(l.Locked())
	}
	whole(t, l, 4, draw(2))
	l.Relock()
	if e := give(t, l, lock.Key(draw(2), 4)); e != api.ErrSeq || l.Locked() != 5 {
		t.Error("a seed is out behind Relock", e)
	}
	l.Seed(0, 4, draw(9))
	l.Relock()
	if _, _, e := l.Seed(1, 0, nil); e != api.ErrSeq {
		t.Error("a seed is out behind Relock", e)
	}
}

func TestP9_3SeedErrors(t *testing.T) {
	l := lock.New(13)
	for i, x := range []struct {
		mode, res uint8
		draw      []byte
		e         api.Errno
	}{
		{0, 0, draw(2), api.ErrArg}, {0, 2, draw(2), api.ErrArg}, {0, 5, draw(2), api.ErrArg}, {0, 13, draw(2), api.ErrArg}, {0, 16, draw(2), api.ErrArg},
		{0, 1, nil, api.ErrArg}, {0, 1, draw(21), api.ErrArg}, {1, 1, draw(2), api.ErrSeq}, {2, 1, draw(2), api.ErrArg}, {255, 1, draw(2), api.ErrArg},
	} {
		if left, part, e := l.Seed(x.mode, x.res, x.draw); left != 0 || len(part) != 0 || e != x.e {
			t.Error(i, left, part, e)
		}
	}
}

func TestP9_3SeedBehindAnErrorIsOutStill(t *testing.T) {
	l := lock.New(13)
	whole(t, l, 1, draw(9))
	l.Seed(0, 3, draw(2))
	l.Seed(0, 1, draw(21))
	l.Seed(0, 4, nil)
	l.Seed(7, 4, draw(2))
	if _, _, e := l.Seed(1, 1, draw(2)); e != api.ErrSeq {
		t.Error("all was told", e)
	}
	if e := give(t, l, lock.Key(draw(9), 1)); e != api.OK || l.Locked() != 12 {
		t.Error(e, l.Locked())
	}
}

func TestP9_3Parts(t *testing.T) {
	for n := 1; n <= 20; n++ {
		l := lock.New(8)
		seed := draw(n)
		whole(t, l, 8, seed)
		if left, part, e := l.Seed(1, 8, seed); left != 0 || len(part) != 0 || e != api.ErrSeq {
			t.Error(n, left, part, e)
		}
		if e := give(t, l, lock.Key(seed, 8)); e != api.OK || l.Locked() != 0 {
			t.Error(n, e, l.Locked())
		}
	}
}

func TestP9_3SeedOfWhatIsNotLocked(t *testing.T) {
	l := lock.New(1)
	whole(t, l, 1, draw(3))
	if left, part, e := l.Seed(0, 4, draw(3)); left != 0 || len(part) != 0 || e != api.OK {
		t.Error(left, part, e)
	}
	if e := give(t, l, lock.Key(draw(3), 1)); e != api.ErrSeq || l.Locked() != 1 {
		t.Error("the seed is out no more", e)
	}
	whole(t, l, 1, draw(3))
	give(t, l, lock.Key(draw(3), 1))
	if left, part, e := l.Seed(0, 1, draw(3)); left != 0 || len(part) != 0 || e != api.OK {
		t.Error(left, part, e)
	}
	if e := l.Unlock(0, nil); e != api.ErrSeq {
		t.Error("no seed is out", e)
	}
}

func TestP9_3SeedIsNotShared(t *testing.T) {
	l := lock.New(1)
	seed := draw(3)
	_, part, _ := l.Seed(0, 1, seed)
	seed[0], part[1] = 99, 98
	if e := give(t, l, lock.Key(draw(3), 1)); e != api.OK {
		t.Error(e)
	}
}

func TestP9_3LastSeedCounts(t *testing.T) {
	l := lock.New(5)
	whole(t, l, 1, draw(8))
	if e := l.Unlock(8, lock.Key(draw(8), 1)[:6]); e != api.OK {
		t.Error(e)
	}
	other := []byte{9, 9, 9, 9, 9, 9, 9, 9}
	whole(t, l, 1, other)
	if e := give(t, l, lock.Key(other, 1)); e != api.OK || l.Locked() != 4 {
		t.Error("no key byte of the new seed had come", e)
	}
}

func TestP9_4UnlockErrors(t *testing.T) {
	key := lock.Key(draw(8), 1)
	for i, x := range []struct {
		left int
		b    []byte
	}{
		{7, key[:6]}, {9, key[:6]}, {8, key[:5]}, {8, key[:7]}, {8, key}, {8, nil}, {2, key[:2]}, {6, key[:6]}, {0, nil}, {-8, key[:6]}, {-1, nil}, {math.MaxInt, key[:6]}, {math.MinInt, nil},
	} {
		l := lock.New(1)
		if e := l.Unlock(x.left, x.b); e != api.ErrSeq {
			t.Error(i, "no seed", e)
		}
		whole(t, l, 1, draw(8))
		if e := l.Unlock(x.left, x.b); e != api.ErrSeq {
			t.Error(i, e)
		}
		if e := l.Unlock(8, key[:6]); e != api.ErrSeq || l.Locked() != 1 {
			t.Error(i, "the seed is out no more", e)
		}
	}
}

func TestP9_4UnlockSecondPart(t *testing.T) {
	key := lock.Key(draw(8), 1)
	for i, x := range []struct {
		left int
		b    []byte
	}{{8, key[:6]}, {2, key[6:7]}, {2, append(key[6:8:8], 1)}, {1, key[6:7]}, {3, key[5:8]}} {
		l := lock.New(1)
		whole(t, l, 1, draw(8))
		l.Unlock(8, key[:6])
		if e := l.Unlock(x.left, x.b); e != api.ErrSeq {
			t.Error(i, e)
		}
		if e := l.Unlock(2, key[6:]); e != api.ErrSeq || l.Locked() != 1 {
			t.Error(i, e)
		}
	}
}

func TestP9_4NotAllWasTold(t *testing.T) {
	l := lock.New(1)
	key := lock.Key(draw(8), 1)
	l.Seed(0, 1, draw(8))
	if e := l.Unlock(8, key[:6]); e != api.ErrSeq {
		t.Error(e)
	}
	if _, _, e := l.Seed(1, 1, nil); e != api.ErrSeq {
		t.Error("the seed is out no more", e)
	}
}

func TestP9_4WrongKey(t *testing.T) {
	for at := range 8 {
		l := lock.New(5)
		whole(t, l, 1, draw(8))
		key := lock.Key(draw(8), 1)
		key[at] ^= 1
		if e := give(t, l, key); e != api.ErrKey || l.Locked() != 5 {
			t.Error(at, e, l.Locked())
		}
		if e := give(t, l, lock.Key(draw(8), 1)[:6]); e != api.ErrSeq {
			t.Error(at, "no seed is out any more", e)
		}
	}
}

func TestP9_4NoSeedIsOutBehindAWholeKey(t *testing.T) {
	for turn := range byte(2) {
		l := lock.New(1)
		whole(t, l, 1, draw(8))
		key := lock.Key(draw(8), 1)
		key[3] ^= turn
		give(t, l, key)
		if e := l.Unlock(0, nil); e != api.ErrSeq || l.Locked() != turn {
			t.Error(turn, e, l.Locked())
		}
		if _, _, e := l.Seed(1, 1, nil); e != api.ErrSeq {
			t.Error(turn, e)
		}
	}
}

func TestP9_4KeyIsNotKept(t *testing.T) {
	l := lock.New(1)
	whole(t, l, 1, draw(8))
	key := lock.Key(draw(8), 1)
	first := bytes.Clone(key[:6])
	l.Unlock(8, first)
	first[0] ^= 1
	if e := l.Unlock(2, key[6:]); e != api.OK || l.Locked() != 0 {
		t.Error(e)
	}
}

func TestP9_4NilLock(t *testing.T) {
	var l *lock.Lock
	l.Relock()
	left, part, e := l.Seed(0, 1, draw(2))
	if l.Locked() != 0 || left != 0 || len(part) != 0 || e != api.ErrNone || l.Unlock(0, nil) != api.ErrNone {
		t.Error("a nil lock locks")
	}
}

func TestP9_5OnlyTheKeyOfItsOwnSeed(t *testing.T) {
	l := lock.New(13)
	for _, res := range []uint8{8, 1, 4} {
		was := l.Locked()
		whole(t, l, res, draw(5))
		if e := give(t, l, lock.Key(draw(5), res^12)); e != api.ErrKey || l.Locked() != was {
			t.Error(res, e)
		}
		whole(t, l, res, draw(5))
		if e := give(t, l, lock.Key(draw(5), res)); e != api.OK || l.Locked() != was&^res {
			t.Error(res, e, l.Locked())
		}
		if e := give(t, l, lock.Key(draw(5), res)); e != api.ErrSeq {
			t.Error("a key counts once", e)
		}
	}
}
