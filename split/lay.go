package split

import "calliper/api"

const (
	choose      = 2 // what StartStop does to a list that is to run with the others
	startChosen = 1 // what StartAll does
)

// Lay is the commands that lay lists, and let them run.
func Lay(l []api.List) ([]api.Cmd, api.Errno) {
	if !mayLay(l) {
		return nil, api.ErrArg
	}
	out := []api.Cmd{command(api.FreeDaq), command(api.AllocDaq, len(l))}
	for i, x := range l {
		out = append(out, command(api.AllocOdt, i, len(x.Tables)))
	}
	for i, x := range l {
		for k, t := range x.Tables {
			out = append(out, command(api.AllocEntry, i, k, len(t)))
		}
	}
	for i, x := range l {
		out = append(out, entries(i, x)...)
	}
	for i, x := range l {
		out = append(out, command(api.SetMode, i, mode(x), int(x.Event), int(x.Pre), int(x.Priority)))
	}
	for i, x := range l {
		if x.Chosen {
			out = append(out, command(api.StartStop, i, choose))
		}
	}
	out = append(out, command(api.StartAll, startChosen))
	if len(out) > api.MaxGroup {
		return nil, api.ErrLong
	}
	return out, api.OK
}

// command is one of small numbers alone.
func command(code uint8, a ...int) api.Cmd {
	c := api.Cmd{Code: code}
	for i, n := range a {
		c.A[i] = uint8(n)
	}
	return c
}

// entries is the commands that write a list's entries.
func entries(list int, x api.List) []api.Cmd {
	var l []api.Cmd
	for k, t := range x.Tables {
		l = append(l, command(api.SetPtr, list, k, 0))
		for _, entry := range t {
			c := command(api.WriteDaq, int(entry.Size), int(entry.Area))
			c.W = entry.At
			l = append(l, c)
		}
	}
	return l
}

func mode(x api.List) int {
	if x.Stim {
		return 1
	}
	return 0
}

// mayLay tells whether a slave may have such lists.
func mayLay(l []api.List) bool {
	if len(l) < 1 || len(l) > api.MaxLists {
		return false
	}
	tables := 0
	for _, x := range l {
		tables += len(x.Tables)
		if len(x.Tables) == 0 || tables > api.MaxTables || x.Pre == 0 {
			return false
		}
		for _, t := range x.Tables {
			if !mayTable(t) {
				return false
			}
		}
	}
	return true
}

func mayTable(t []api.Entry) bool {
	if len(t) < 1 || len(t) > api.MaxEntries {
		return false
	}
	n := 0
	for _, x := range t {
		n += int(x.Size)
		if x.Size == 0 || n > api.MaxTable {
			return false
		}
	}
	return true
}
