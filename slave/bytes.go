package slave

import (
	"slices"

	"calliper/api"
	"calliper/num"
	"calliper/sum"
)

const (
	wideWord  = 4  // bytes of a sum, and of what Modify modifies
	mostShift = 31 // by which Modify shifts
	ones16    = 1<<16 - 1
)

// read is bytes at Mta, which stays.
func (s *Slave) read(n int) []byte {
	b, e := s.mem.Read(api.Xcp, s.area, s.at, n)
	check(e)
	return b
}

// write sets bytes at Mta, which stays.
func (s *Slave) write(b []byte) {
	s.unlocked()
	check(s.mem.Write(api.Xcp, s.area, s.at, b))
}

// download sets bytes at Mta, which goes on behind them.
func (s *Slave) download(b []byte) {
	s.write(b)
	s.at += uint32(len(b))
}

// tell does the commands that tell of memory.
func (s *Slave) tell(c api.Cmd) []api.Rep {
	n := int(c.A[0])
	switch c.Code {
	case api.Upload:
		refuse(n == 0, api.ErrArg)
	case api.ShortUp:
		refuse(n == 0 || n > api.MaxUp, api.ErrArg)
		s.area, s.at = c.A[1], c.W
	case api.Checksum:
		return s.checksum(c)
	}
	var l []api.Rep
	for part := range parts(s.read(n)) {
		l = append(l, positive(part...)...)
	}
	s.at += uint32(n)
	return l
}

// parts goes through bytes, as many at a time as an answer has.
func parts(b []byte) func(yield func(part []byte) bool) {
	return func(yield func(part []byte) bool) {
		for left := b; len(left) > 0; {
			n := min(len(left), api.MaxUp)
			if !yield(slices.Clone(left[:n])) {
				return
			}
			left = left[n:]
		}
	}
}

func (s *Slave) checksum(c api.Cmd) []api.Rep {
	refuse(c.W > api.MaxCheck, api.ErrArg)
	r, e := sum.Of(c.A[0], s.read(int(c.W)), true)
	check(e)
	out, e := num.Put([]byte{c.A[0]}, uint64(r), wideWord, true)
	check(e)
	s.at += c.W
	return positive(out...)
}

// set does the commands that write memory.
func (s *Slave) set(c api.Cmd) []api.Rep {
	switch c.Code {
	case api.Download:
		return s.begin(c)
	case api.DownNext:
		return s.next(c)
	case api.DownMax:
		s.download(c.B)
	case api.Modify:
		s.modify(c)
	}
	return positive()
}

func (s *Slave) begin(c api.Cmd) []api.Rep {
	n := int(c.A[0])
	refuse(n == 0 || n > api.MaxBlock, api.ErrArg)
	s.download(c.B)
	return s.rest(n - len(c.B))
}

func (s *Slave) next(c api.Cmd) []api.Rep {
	left := s.left
	s.left = 0 // whatever goes wrong closes the block
	refuse(left == 0 || int(c.A[0]) != left, api.ErrSeq)
	s.download(c.B)
	return s.rest(left - len(c.B))
}

// rest keeps a block open as long as bytes of it are left: only its last part is answered.
func (s *Slave) rest(left int) []api.Rep {
	s.left = left
	if left > 0 {
		return nil
	}
	return positive()
}

func (s *Slave) modify(c api.Cmd) {
	shift := c.A[0]
	refuse(shift > mostShift, api.ErrArg)
	s.unlocked()
	v, _, e := num.Take(s.read(wideWord), wideWord, true)
	check(e)
	keep, turn := c.W>>16, c.W&ones16
	cleared := (^keep & ones16) << shift
	b, e := num.Put(nil, uint64(uint32(v)&^cleared^turn<<shift), wideWord, true)
	check(e)
	s.write(b)
}
