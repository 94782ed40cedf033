package daq

import "calliper/api"

// What StartStop does to a list.
const (
	stop = iota
	start
	choose
)

// What StartAll does.
const (
	stopAll = iota
	startChosen
	stopChosen
)

func (d *Daq) setMode(c api.Cmd) ([]byte, api.Errno) {
	list, mode, event, pre := int(c.A[0]), c.A[1], c.A[2], c.A[3]
	switch {
	case !d.hasList(list) || mode > 1 || int(event) >= d.events || pre == 0:
		return nil, api.ErrArg
	case d.lists[list].On:
		return nil, api.ErrBusy
	}
	l := &d.lists[list]
	l.Stim, l.Event, l.Pre, l.Priority = mode == 1, event, pre, c.A[4]
	return nil, api.OK
}

func (d *Daq) startStop(c api.Cmd) ([]byte, api.Errno) {
	list, what := int(c.A[0]), c.A[1]
	switch {
	case !d.hasList(list) || what > choose:
		return nil, api.ErrArg
	case what != stop && !ready(d.lists[list]):
		return nil, api.ErrSeq
	}
	l := &d.lists[list]
	switch what {
	case stop:
		l.On, l.Chosen = false, false
	case start:
		l.On = true
	case choose:
		l.Chosen = true
	}
	return []byte{byte(d.first(list))}, api.OK
}

// ready tells whether a list may run.
func ready(l api.List) bool {
	for _, t := range l.Tables {
		for _, x := range t {
			if x.Size == 0 {
				return false
			}
		}
		if len(t) == 0 {
			return false
		}
	}
	return len(l.Tables) > 0
}

func (d *Daq) startAll(c api.Cmd) ([]byte, api.Errno) {
	switch c.A[0] {
	case stopAll:
		d.Stop()
	case startChosen:
		d.runChosen(true)
	case stopChosen:
		d.runChosen(false)
	default:
		return nil, api.ErrArg
	}
	return nil, api.OK
}

// runChosen lets the lists that are chosen run, or not; none is chosen then.
func (d *Daq) runChosen(on bool) {
	for i := range d.lists {
		if d.lists[i].Chosen {
			d.lists[i].On, d.lists[i].Chosen = on, false
		}
	}
}
