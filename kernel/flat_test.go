package kernel

import (
	"maps"
	"slices"

	"demesne/api"
	"demesne/call"
	"demesne/share"
	"demesne/trap"
)

// cell is a page of a process in the model: its use, and its bytes (none, if it leads nowhere); of a borrowed one they are the lender's.
type cell struct {
	perm     api.Perm
	bytes    *[page]byte
	borrowed bool
}

// plain is a process in the model.
type plain struct {
	parent, quota, space int
	state                trap.State
	cells                map[int]cell
}

// flat is a kernel without a machine: no tables, no frames, no lines.
type flat struct {
	procs   map[int]*plain
	grants  map[int]share.Grant
	line    []int
	ticks   int
	quantum int
	began   int
}

func newFlat(quota, quantum int) *flat {
	f := &flat{procs: map[int]*plain{}, grants: map[int]share.Grant{}, quantum: quantum}
	f.begin(0, 0, quota)
	return f
}

func (f *flat) begin(pid, parent, quota int) {
	f.procs[pid] = &plain{parent: parent, quota: quota, space: f.began, cells: map[int]cell{}}
	f.line = append(f.line, pid)
	f.began++
}

// cost: how many frames a process has: its root, its tables, those of its own.
func (p *plain) cost() int {
	frames := 1
	tables := map[[2]int]int{}
	for at, c := range p.cells {
		if c.bytes == nil {
			continue
		}
		for shift := 9; shift <= 27; shift += 9 {
			tables[[2]int{shift, at >> shift}]++
		}
		if !c.borrowed {
			frames++
		}
	}
	return frames + len(tables)
}

func (f *flat) room(pid int) int {
	room := f.procs[pid].quota - f.procs[pid].cost()
	for child, p := range f.procs {
		if child != 0 && p.parent == pid {
			room -= p.quota
		}
	}
	return room
}

// runs: how many regions say what the cells say.
func runs(cells map[int]cell) int {
	n, end := 0, -1
	var last cell
	for _, at := range slices.Sorted(maps.Keys(cells)) {
		c := cells[at]
		if n == 0 || at != end || c.perm != last.perm || c.borrowed != last.borrowed {
			n++
		}
		end, last = at+1, c
	}
	return n
}

// busy: is one of these pages borrowed, or lent?
func (f *flat) busy(pid int, r api.Range) bool {
	for at, c := range f.procs[pid].cells {
		if at >= r.From && at < r.To && c.borrowed {
			return true
		}
	}
	for _, g := range f.grants {
		if g.Taken && g.From == pid && g.Page >= r.From && g.Page < r.To {
			return true
		}
	}
	return false
}

func (f *flat) view(pid int) View {
	p := f.procs[pid]
	return View{State: p.state, Parent: p.parent, Quota: p.quota, Used: p.cost(), Room: f.room(pid), Space: p.space}
}

func (f *flat) of(pid int) []int {
	var ids []int
	for id, g := range f.grants {
		if g.From == pid || g.To == pid {
			ids = append(ids, id)
		}
	}
	slices.Sort(ids)
	return ids
}

// do: what the process whose turn it is is told.
func (f *flat) do(w call.Words) Result {
	pid := f.line[0]
	c, e := call.Read(w)
	if e != api.OK {
		return Result{Pid: pid, Err: e}
	}
	p, r := f.procs[pid], Result{}
	switch c.Op {
	case call.Map, call.Unmap, call.Protect:
		r.Err = f.pages(pid, c)
	case call.Load, call.Store:
		r = f.access(pid, c)
	case call.Offer:
		r = f.offer(pid, c)
	case call.Accept:
		r.Err = f.accept(pid, c)
	case call.Revoke, call.Leave:
		r.Err = f.undo(pid, c)
	case call.Handler:
		p.state, r.Err = trap.Handle(p.state, c.Addr)
	case call.Return:
		p.state, r.Err = trap.Return(p.state)
	case call.Reckon:
		p.state, r.Err = trap.Reckon(p.state, c.Id, c.A, c.B, c.D)
	case call.Move:
		p.state, r.Err = trap.Move(p.state, c.Id, c.X)
	case call.Spawn:
		r = f.spawn(pid, c.Id)
	case call.Exit:
		r.Err = api.ErrPerm
		if pid != 0 {
			r.Err = api.OK
			f.end(pid)
		}
	case call.Yield:
		f.turn()
	}
	r.Pid = pid
	return r
}

func (f *flat) turn() {
	f.ticks = 0
	f.line = append(f.line[1:], f.line[0])
}

func (f *flat) tick() bool {
	f.ticks++
	if f.ticks < f.quantum {
		return false
	}
	f.turn()
	return true
}

func (f *flat) pages(pid int, c call.Call) api.Errno {
	p := f.procs[pid]
	if runs(p.cells) > api.MaxRegions {
		return api.ErrForm // what was given back left more than there may be
	}
	next := maps.Clone(p.cells)
	for at := c.Pages.From; at < c.Pages.To; at++ {
		was, there := next[at]
		switch {
		case c.Op == call.Map && there:
			return api.ErrThere
		case c.Op == call.Protect && !there:
			return api.ErrNone
		case c.Op == call.Unmap:
			delete(next, at)
		default:
			was.perm = c.Perm
			next[at] = was
		}
	}
	if runs(next) > api.MaxRegions {
		return api.ErrBig
	}
	if c.Op != call.Map && f.busy(pid, c.Pages) {
		return api.ErrBusy
	}
	p.cells = next
	return api.OK
}

// with: a process has this cell, if it may have what that costs.
func (f *flat) with(pid, at int, c cell) api.Errno {
	p := f.procs[pid]
	was, there := p.cells[at]
	p.cells[at] = c
	if f.room(pid) >= 0 {
		return api.OK
	}
	delete(p.cells, at)
	if there {
		p.cells[at] = was
	}
	return api.ErrQuota
}

func (f *flat) access(pid int, c call.Call) Result {
	p, at, write := f.procs[pid], int(c.Addr/page), c.Op == call.Store
	x, ok := p.cells[at]
	if !ok || write && !x.perm.Write {
		r := Result{Err: api.ErrFault, Fault: api.Fault{Addr: c.Addr, Code: 4}}
		if write {
			r.Fault.Code += 2
		}
		if ok && x.bytes != nil {
			r.Fault.Code++
		}
		if p.state.Entry != 0 && !p.state.In {
			r.Up = true
			p.state.In, p.state.Fault, p.state.Saved = true, r.Fault, p.state.Regs
			p.state.Regs = trap.Regs{c.Addr, uint64(r.Fault.Code), 0, 0}
		}
		return r
	}
	if x.bytes == nil {
		x.bytes = &[page]byte{}
		if e := f.with(pid, at, x); e != api.OK {
			return Result{Err: e}
		}
	}
	r := Result{}
	for i := range c.Size {
		b := &x.bytes[int(c.Addr%page)+i]
		if write {
			*b = byte(c.X >> (8 * i))
		} else {
			r.X |= uint64(*b) << (8 * i)
		}
	}
	return r
}

func (f *flat) offer(pid int, c call.Call) Result {
	x := f.procs[pid].cells[c.Pages.From]
	if f.procs[c.Id] == nil || c.Id == pid || x.bytes == nil || x.borrowed {
		return Result{Err: api.ErrNone}
	}
	if c.Perm.Write && !x.perm.Write {
		return Result{Err: api.ErrPerm}
	}
	for id := 16 * pid; id < 16*pid+16; id++ {
		if _, ok := f.grants[id]; !ok {
			f.grants[id] = share.Grant{From: pid, Page: c.Pages.From, To: c.Id, Write: c.Perm.Write}
			return Result{X: uint64(id)}
		}
	}
	return Result{Err: api.ErrBig}
}

func (f *flat) accept(pid int, c call.Call) api.Errno {
	g, ok := f.grants[c.Id]
	if !ok || g.To != pid {
		return api.ErrNone
	}
	if g.Taken {
		return api.ErrBusy
	}
	p, at, x := f.procs[pid], c.Pages.From, f.procs[g.From].cells[g.Page]
	taken := cell{perm: api.Perm{Write: g.Write, User: true}, bytes: x.bytes, borrowed: true}
	next := maps.Clone(p.cells)
	next[at] = taken
	switch _, there := p.cells[at]; {
	case x.bytes == nil || x.borrowed:
		return api.ErrNone
	case g.Write && !x.perm.Write:
		return api.ErrPerm
	case runs(p.cells) > api.MaxRegions:
		return api.ErrForm
	case there:
		return api.ErrThere
	case runs(next) > api.MaxRegions:
		return api.ErrBig
	}
	if e := f.with(pid, at, taken); e != api.OK {
		return e
	}
	g.Taken, g.At = true, at
	f.grants[c.Id] = g
	return api.OK
}

// back: a page that was taken is the taker's no more.
func (f *flat) back(g share.Grant) {
	if g.Taken {
		delete(f.procs[g.To].cells, g.At)
	}
}

func (f *flat) undo(pid int, c call.Call) api.Errno {
	g, ok := f.grants[c.Id]
	switch {
	case ok && c.Op == call.Revoke && g.From == pid:
		delete(f.grants, c.Id)
	case c.Op == call.Leave && g.To == pid && g.Taken:
		f.grants[c.Id] = share.Grant{From: g.From, Page: g.Page, To: g.To, Write: g.Write}
	default:
		return api.ErrNone
	}
	f.back(g)
	return api.OK
}

func (f *flat) spawn(pid, quota int) Result {
	child := 0
	for f.procs[child] != nil {
		child++
	}
	if child == 16 {
		return Result{Err: api.ErrBig}
	}
	if quota > f.room(pid) || quota < 1 {
		return Result{Err: api.ErrQuota}
	}
	f.begin(child, pid, quota)
	return Result{X: uint64(child)}
}

func (f *flat) end(pid int) {
	for child := range 16 {
		if p := f.procs[child]; p != nil && child != 0 && p.parent == pid {
			f.end(child)
		}
	}
	for _, id := range f.of(pid) {
		f.back(f.grants[id])
		delete(f.grants, id)
	}
	delete(f.procs, pid)
	if f.line[0] == pid {
		f.ticks = 0
	}
	f.line = slices.DeleteFunc(f.line, func(p int) bool { return p == pid })
}
