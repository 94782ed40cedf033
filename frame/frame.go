// Package frame is layer 1: frames of a bus.
package frame

import "calliper/api"

const (
	shortIds  = 1 << 11
	longIds   = 1 << 29
	lowBits   = 18 // those of a long Id behind the 11 that a short one has, too
	shiftHigh = 19 // room for these, and for the bit that puts long frames behind
	lastRank  = 1<<32 - 1
)

// May tells whether a frame may be.
func May(f api.Frame) bool {
	if f.Id >= ids(f.Ext) || f.Len < 0 || f.Len > api.Most {
		return false
	}
	var behind [api.Most]byte
	copy(behind[f.Len:], f.B[f.Len:])
	return behind == [api.Most]byte{}
}

// ids is how many Ids there are.
func ids(ext bool) uint32 {
	if ext {
		return longIds
	}
	return shortIds
}

// Make is a frame of bytes.
func Make(id uint32, ext bool, b []byte) (api.Frame, api.Errno) {
	if id >= ids(ext) {
		return api.Frame{}, api.ErrArg
	}
	if len(b) > api.Most {
		return api.Frame{}, api.ErrLong
	}
	f := api.Frame{Id: id, Ext: ext, Len: len(b)}
	copy(f.B[:], b)
	return f, api.OK
}

// Bytes is the bytes of a frame.
func Bytes(f api.Frame) []byte {
	if !May(f) {
		return nil
	}
	b := make([]byte, f.Len)
	copy(b, f.B[:])
	return b
}

// Pad is a frame of all bytes that may be, some put behind.
func Pad(f api.Frame, with byte) api.Frame {
	if !May(f) {
		return f
	}
	for i := f.Len; i < api.Most; i++ {
		f.B[i] = with
	}
	f.Len = api.Most
	return f
}

// Rank is what a frame is sent by: the least goes first.
func Rank(f api.Frame) uint32 {
	if !May(f) {
		return lastRank
	}
	if !f.Ext {
		return f.Id << shiftHigh
	}
	high, low := f.Id>>lowBits, f.Id%(1<<lowBits)
	return high<<shiftHigh | 1<<lowBits | low
}
