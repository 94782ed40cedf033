package daq

import "calliper/api"

func (d *Daq) free(api.Cmd) ([]byte, api.Errno) {
	d.lists, d.step, d.ptr = nil, stepFree, pointer{}
	return nil, api.OK
}

func (d *Daq) allocLists(c api.Cmd) ([]byte, api.Errno) {
	n := int(c.A[0])
	switch {
	case d.step != stepFree:
		return nil, api.ErrSeq
	case n > api.MaxLists:
		return nil, api.ErrFull
	}
	d.lists, d.step = make([]api.List, n), stepLists
	for i := range d.lists {
		d.lists[i].Pre = 1
	}
	return nil, api.OK
}

func (d *Daq) allocTables(c api.Cmd) ([]byte, api.Errno) {
	list, n := int(c.A[0]), int(c.A[1])
	switch {
	case d.step != stepLists && d.step != stepTables:
		return nil, api.ErrSeq
	case !d.hasList(list):
		return nil, api.ErrArg
	case len(d.lists[list].Tables) > 0:
		return nil, api.ErrSeq
	case d.first(len(d.lists))+n > api.MaxTables:
		return nil, api.ErrFull
	}
	d.lists[list].Tables, d.step = make([][]api.Entry, n), stepTables
	return nil, api.OK
}

func (d *Daq) allocEntries(c api.Cmd) ([]byte, api.Errno) {
	list, table, n := int(c.A[0]), int(c.A[1]), int(c.A[2])
	switch {
	case d.step != stepTables && d.step != stepEntries:
		return nil, api.ErrSeq
	case !d.hasTable(list, table):
		return nil, api.ErrArg
	case len(d.lists[list].Tables[table]) > 0:
		return nil, api.ErrSeq
	case n > api.MaxEntries:
		return nil, api.ErrFull
	}
	d.lists[list].Tables[table], d.step = make([]api.Entry, n), stepEntries
	return nil, api.OK
}

func (d *Daq) hasList(list int) bool { return list < len(d.lists) }

func (d *Daq) hasTable(list, table int) bool {
	return d.hasList(list) && table < len(d.lists[list].Tables)
}

func (d *Daq) hasEntry(list, table, entry int) bool {
	return d.hasTable(list, table) && entry < len(d.lists[list].Tables[table])
}

func (d *Daq) setPtr(c api.Cmd) ([]byte, api.Errno) {
	p := pointer{true, int(c.A[0]), int(c.A[1]), int(c.A[2])}
	switch {
	case !d.hasEntry(p.list, p.table, p.entry):
		return nil, api.ErrArg
	case d.lists[p.list].On:
		return nil, api.ErrBusy
	}
	d.ptr = p
	return nil, api.OK
}

func (d *Daq) write(c api.Cmd) ([]byte, api.Errno) {
	if !d.ptr.there {
		return nil, api.ErrSeq
	}
	list := d.lists[d.ptr.list]
	table := list.Tables[d.ptr.table]
	size := c.A[0]
	switch {
	case size == 0 || sizeOf(table)-int(table[d.ptr.entry].Size)+int(size) > api.MaxTable:
		return nil, api.ErrArg
	case list.On:
		return nil, api.ErrBusy
	}
	table[d.ptr.entry] = api.Entry{Size: size, Area: c.A[1], At: c.W}
	d.ptr.entry++
	if d.ptr.entry == len(table) {
		d.ptr = pointer{}
	}
	return nil, api.OK
}

// sizeOf is how many bytes a table has.
func sizeOf(table []api.Entry) int {
	n := 0
	for _, x := range table {
		n += int(x.Size)
	}
	return n
}
