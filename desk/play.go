package desk

import (
	"strconv"

	"calliper/api"
)

// play is an order's answer.
func (d *Desk) play(o Order) string {
	switch o.Verb {
	case "new":
		*d = *New()
		return told(api.OK)
	case "draw":
		d.draw = bytesOf(o.N)
		return told(api.OK)
	case "go":
		return told(d.rounds(o.N[0]))
	case "done":
		return d.done()
	case "sample":
		return d.sample()
	case "locked":
		return strconv.Itoa(int(d.sys.Locked()))
	case "idle":
		if d.sys.Idle() {
			return "1"
		}
		return "0"
	}
	a, e := d.act(o)
	if e == api.OK {
		e = d.sys.Step(a)
	}
	return told(e)
}

func (d *Desk) rounds(n int) api.Errno {
	if n > mostRounds {
		return api.ErrArg
	}
	d.sys.Rounds(n, d.draw)
	return api.OK
}

func bytesOf(l []int) []byte {
	var b []byte
	for _, n := range l {
		b = append(b, byte(n))
	}
	return b
}

func (d *Desk) done() string {
	b, code, e := d.sys.Done()
	if e == api.ErrSlave {
		return words(told(e), int(code))
	}
	return words(told(e), intsOf(b)...)
}

func intsOf(b []byte) []int {
	var l []int
	for _, x := range b {
		l = append(l, int(x))
	}
	return l
}

func (d *Desk) sample() string {
	s, ok := d.sys.Sample()
	if !ok {
		return told(api.ErrNone)
	}
	lost := 0
	if s.Lost {
		lost = 1
	}
	out := words(strconv.Itoa(s.List), lost)
	for _, b := range s.B {
		out = words(out, intsOf(b)...)
	}
	return out
}

// act is what an order lets happen.
func (d *Desk) act(o Order) (api.Act, api.Errno) {
	n := o.N
	switch o.Verb {
	case "push":
		return api.Act{Kind: api.AcPush, L: [][]byte{bytesOf(n)}}, api.OK
	case "master":
		return api.Act{Kind: api.AcMaster}, api.OK
	case "slave":
		return api.Act{Kind: api.AcSlave, B: d.draw}, api.OK
	case "bus":
		return api.Act{Kind: api.AcBus}, api.OK
	case "lose":
		return api.Act{Kind: api.AcLost}, api.OK
	case "tick":
		return api.Act{Kind: api.AcTick}, api.OK
	case "event":
		return api.Act{Kind: api.AcEvent, N: n[0]}, api.OK
	case "app":
		return api.Act{Kind: api.AcApp, Area: uint8(n[0]), At: uint32(n[1]), B: bytesOf(n[2:])}, api.OK
	case "put":
		return put(bytesOf(n))
	}
	return api.Act{Kind: api.AcBegin, Op: op(o)}, api.OK
}

// put is a short frame to the slave that comes from elsewhere.
func put(b []byte) (api.Act, api.Errno) {
	if len(b) > api.Most {
		return api.Act{}, api.ErrLong
	}
	f := api.Frame{Id: slaveId, Len: len(b)}
	copy(f.B[:], b)
	return api.Act{Kind: api.AcPut, F: f}, api.OK
}

// op is what an order asks the master for.
func op(o Order) api.Op {
	n := o.N
	switch o.Verb {
	case "on":
		return api.Op{Kind: api.OpOn}
	case "off":
		return api.Op{Kind: api.OpOff}
	case "stop":
		return api.Op{Kind: api.OpStop}
	case "read":
		return api.Op{Kind: api.OpRead, Area: uint8(n[0]), At: uint32(n[1]), N: n[2]}
	case "write":
		return api.Op{Kind: api.OpWrite, Area: uint8(n[0]), At: uint32(n[1]), B: bytesOf(n[2:])}
	case "open":
		return api.Op{Kind: api.OpOpen, Res: uint8(n[0])}
	case "lay":
		return lay(api.List{Event: uint8(n[0]), Pre: uint8(n[1])}, n[2], n[3])
	case "hold":
		return lay(api.List{Event: uint8(n[0]), Pre: 1, Stim: true}, n[1], n[2])
	}
	return api.Op{}
}

// lay asks for a list that is begun, of plain bytes at an address.
func lay(l api.List, n, at int) api.Op {
	l.Chosen = true
	l.Tables = [][]api.Entry{{{Size: uint8(n), At: uint32(at)}}}
	return api.Op{Kind: api.OpLay, Lists: []api.List{l}}
}
