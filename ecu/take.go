package ecu

import (
	"calliper/api"
	"calliper/cmd"
	"calliper/frame"
	"calliper/rep"
)

// What StartStop and StartAll are told to begin lists.
const (
	startOne    = 1
	chooseOne   = 2
	startChosen = 1
)

// Take takes a frame.
func (e *Ecu) Take(f api.Frame, draw []byte) bool {
	b := frame.Bytes(f) // none of a frame that may not be
	if e == nil || f.Ext || f.Id != e.in || len(b) == 0 {
		return false
	}
	if b[0] < api.MaxCode {
		e.set(api.Rep{Kind: api.Dto, Code: b[0], B: b[1:]})
		return true
	}
	if len(e.answers) > 0 {
		return true
	}
	b[0] -= api.MaxCode
	c, err := cmd.Take(b)
	switch {
	case err != api.OK:
		if e.On() {
			e.refuse(err)
		}
	case c.Code < api.FreeDaq:
		e.command(c, draw)
	case e.On():
		e.measure(c)
	}
	return true
}

// set takes bytes that are to be set at an event.
func (e *Ecu) set(r api.Rep) {
	if e.On() && !e.isLocked(api.StmRes) {
		e.stim.Take(e.daq.Lists(), r)
	}
}

// refuse lets a negative answer wait.
func (e *Ecu) refuse(err api.Errno) {
	e.answers = []api.Rep{{Kind: api.Neg, Code: rep.Code(err)}}
}

// command does a command on memory.
func (e *Ecu) command(c api.Cmd, draw []byte) {
	if c.Code == api.Connect || c.Code == api.Disconnect && e.On() {
		for _, end := range []func(){e.daq.Stop, e.queue.Clear, e.stim.Clear} {
			end()
		}
	}
	e.answers, _ = e.slave.Do(c, draw) // no error: what layer 6 takes it puts
}

// measure does a command on lists.
func (e *Ecu) measure(c api.Cmd) {
	begun := e.begun(c)
	if e.isLocked(api.DaqRes) || e.isLocked(api.StmRes) && e.anySet(begun) {
		e.refuse(api.ErrLocked)
		return
	}
	b, err := e.daq.Do(c)
	if err != api.OK {
		e.refuse(err)
		return
	}
	e.answers = []api.Rep{{Kind: api.Pos, B: b}}
	if c.Code == api.FreeDaq {
		e.queue.Clear()
		e.stim.Clear()
	}
	if c.Code == api.StartStop && c.A[1] == chooseOne {
		return // what is chosen starts only by a StartAll
	}
	for _, i := range begun {
		e.fire.Start(i)
	}
}

// begun is the places of the lists that a command begins, or chooses to be begun.
func (e *Ecu) begun(c api.Cmd) []int {
	var l []int
	for i, x := range e.daq.Lists() {
		one := c.Code == api.StartStop && int(c.A[0]) == i && (c.A[1] == startOne || c.A[1] == chooseOne)
		if one || c.Code == api.StartAll && c.A[0] == startChosen && x.Chosen {
			l = append(l, i)
		}
	}
	return l
}

// anySet tells whether some of these lists are set, not measured.
func (e *Ecu) anySet(places []int) bool {
	lists := e.daq.Lists()
	for _, i := range places {
		if lists[i].Stim {
			return true
		}
	}
	return false
}
