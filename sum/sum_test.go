package sum_test

import (
	"bytes"
	"testing"

	"calliper/api"
	"calliper/sum"
)

var kinds = []uint8{api.Add11, api.Add12, api.Add14, api.Add22, api.Add24, api.Add44, api.Crc16, api.Citt, api.Crc32}

func TestP5_1Word(t *testing.T) {
	want := map[uint8]int{api.Add11: 1, api.Add12: 1, api.Add14: 1, api.Add22: 2, api.Add24: 2, api.Add44: 4, api.Crc16: 1, api.Citt: 1, api.Crc32: 1}
	for k := range 256 {
		if got := sum.Word(uint8(k)); got != want[uint8(k)] {
			t.Error(k, got)
		}
	}
}

func TestP5_1Errors(t *testing.T) {
	for k := range 256 {
		if sum.Word(uint8(k)) != 0 {
			continue
		}
		if got, e := sum.Of(uint8(k), []byte{1, 2, 3}, true); got != 0 || e != api.ErrArg {
			t.Error(k, got, e)
		}
	}
	for _, k := range kinds {
		for n := range 10 {
			got, e := sum.Of(k, bytes.Repeat([]byte{1}, n), false)
			fits := n%sum.Word(k) == 0
			if fits && e != api.OK || !fits && (e != api.ErrShort || got != 0) {
				t.Error(k, n, got, e)
			}
		}
	}
}

func TestP5_2Sums(t *testing.T) {
	ff := bytes.Repeat([]byte{255}, 1024)
	for i, x := range []struct {
		kind uint8
		b    []byte
		big  bool
		want uint32
	}{
		{api.Add11, nil, true, 0},
		{api.Add44, nil, true, 0},
		{api.Add11, []byte("123456789"), true, 221},
		{api.Add12, []byte("123456789"), true, 477},
		{api.Add14, []byte("123456789"), false, 477},
		{api.Add11, []byte{200, 100}, true, 44},
		{api.Add12, []byte{200, 100}, true, 300},
		{api.Add12, ff, true, 1024 * 255 % 65536},
		{api.Add14, ff, true, 1024 * 255},
		{api.Add22, []byte{1, 2, 3, 4}, true, 0x0102 + 0x0304},
		{api.Add22, []byte{1, 2, 3, 4}, false, 0x0201 + 0x0403},
		{api.Add22, []byte{255, 255, 0, 2}, true, 1},
		{api.Add24, []byte{255, 255, 0, 2}, true, 0x10001},
		{api.Add24, []byte{255, 255, 2, 0}, false, 0x10001},
		{api.Add44, []byte{1, 2, 3, 4, 5, 6, 7, 8}, true, 0x01020304 + 0x05060708},
		{api.Add44, []byte{1, 2, 3, 4, 5, 6, 7, 8}, false, 0x04030201 + 0x08070605},
		{api.Add44, []byte{255, 255, 255, 255, 0, 0, 0, 3}, true, 2},
	} {
		if got, e := sum.Of(x.kind, x.b, x.big); got != x.want || e != api.OK {
			t.Error(i, got, e)
		}
	}
}

func TestP5_3Remainders(t *testing.T) {
	for i, x := range []struct {
		kind uint8
		b    string
		want uint32
	}{
		{api.Crc16, "123456789", 0xbb3d},
		{api.Citt, "123456789", 0x29b1},
		{api.Crc32, "123456789", 0xcbf43926},
		{api.Crc16, "", 0},
		{api.Citt, "", 0xffff},
		{api.Crc32, "", 0},
		{api.Crc16, "\x00", 0},
		{api.Crc16, "\x01", 0xc0c1},
		{api.Citt, "\x00", 0xe1f0},
		{api.Citt, "A", 0xb915},
		{api.Crc32, "\x00", 0xd202ef8d},
		{api.Crc32, "a", 0xe8b7be43},
		{api.Crc32, "The quick brown fox jumps over the lazy dog", 0x414fa339},
	} {
		for _, big := range []bool{false, true} {
			if got, e := sum.Of(x.kind, []byte(x.b), big); got != x.want || e != api.OK {
				t.Errorf("%d: %x %d", i, got, e)
			}
		}
	}
}

// divided is what is left of bits, the first of each byte first, divided by a polynomial of 16 bits.
func divided(b []byte, by uint32) uint32 {
	r := uint32(0)
	for _, x := range append([]byte{b[0] ^ 255, b[1] ^ 255}, append(b[2:len(b):len(b)], 0, 0)...) {
		for bit := 7; bit >= 0; bit-- {
			r = r<<1 | uint32(x>>bit&1)
			if r>>16 == 1 {
				r ^= 1<<16 | by
			}
		}
	}
	return r
}

func TestP5_3CittOfTwoBytes(t *testing.T) {
	for n := range 1 << 16 {
		b := []byte{byte(n >> 8), byte(n)}
		if got, _ := sum.Of(api.Citt, b, true); got != divided(b, 0x1021) {
			t.Fatal(b, got)
		}
	}
}

func TestP5_4SumsAndOrder(t *testing.T) {
	one := []byte{1, 2, 3, 4, 250, 251, 252, 253, 9, 8, 7, 6}
	other := []byte{9, 8, 7, 6, 1, 2, 3, 4, 250, 251, 252, 253}
	for _, k := range kinds[:6] {
		for _, big := range []bool{false, true} {
			x, _ := sum.Of(k, one, big)
			y, _ := sum.Of(k, other, big)
			if x != y {
				t.Error(k, big, x, y)
			}
		}
	}
}

func TestP5_4RemaindersTellABit(t *testing.T) {
	b := []byte("control unit")
	for _, k := range []uint8{api.Crc16, api.Citt, api.Crc32} {
		want, _ := sum.Of(k, b, true)
		for i := range b {
			for bit := range 8 {
				turned := bytes.Clone(b)
				turned[i] ^= 1 << bit
				if got, _ := sum.Of(k, turned, true); got == want {
					t.Error(k, i, bit)
				}
			}
		}
	}
	if string(b) != "control unit" {
		t.Error("changed", b)
	}
}
