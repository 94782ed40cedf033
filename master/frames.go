package master

import (
	"slices"

	"calliper/api"
	"calliper/cmd"
	"calliper/frame"
	"calliper/rep"
)

// Push is bytes that a list is to set.
func (m *Master) Push(list int, b [][]byte) api.Errno {
	if m == nil || list < 0 || list >= len(m.lists) || !m.lists[list].stim {
		return api.ErrNone
	}
	x := m.lists[list]
	tooLong := func(b []byte) bool { return len(b) > api.MaxTable }
	switch {
	case len(b) != x.tables || slices.ContainsFunc(b, tooLong):
		return api.ErrArg
	case len(m.packets)+len(b) > api.MaxQueue:
		return api.ErrFull
	}
	for i, part := range b {
		m.packets = append(m.packets, append([]byte{byte(x.first + i)}, part...))
	}
	return api.OK
}

// Send is the next frame that goes out.
func (m *Master) Send() (api.Frame, bool) {
	if m == nil {
		return api.Frame{}, false
	}
	b, ok := m.next()
	if !ok {
		return api.Frame{}, false
	}
	f, _ := frame.Make(m.out, false, b) // no error: commands and packets have room in a frame
	return f, true
}

// next is the bytes that go out next: a command ahead of what was pushed.
func (m *Master) next() ([]byte, bool) {
	if c, ok := m.wait.Next(); ok {
		b, _ := cmd.Put(c) // no error: layer 16 has taken it
		b[0] += api.MaxCode
		return b, true
	}
	if len(m.packets) == 0 {
		return nil, false
	}
	b := m.packets[0]
	m.packets = slices.Delete(m.packets, 0, 1)
	return b, true
}

// Take takes a frame.
func (m *Master) Take(f api.Frame) bool {
	if m == nil || !frame.May(f) || f.Ext || f.Id != m.in {
		return false
	}
	r, e := rep.Take(frame.Bytes(f))
	if e != api.OK {
		return false
	}
	switch r.Kind {
	case api.Pos, api.Neg:
		m.wait.Hear(r)
		m.open()
	case api.Dto:
		s, ok := m.gather.Take(r)
		if ok && len(m.samples) < api.MaxSamples {
			m.samples = append(m.samples, s)
		}
	}
	return true
}

// Tick is that time goes by.
func (m *Master) Tick() {
	if m != nil {
		m.wait.Tick()
	}
}

// Sample is the first sample that came.
func (m *Master) Sample() (api.Sample, bool) {
	if m == nil || len(m.samples) == 0 {
		return api.Sample{}, false
	}
	s := m.samples[0]
	m.samples = slices.Delete(m.samples, 0, 1)
	return s, true
}
