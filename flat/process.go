package flat

import (
	"demesne/api"
	"demesne/kernel"
	"demesne/region"
	"demesne/trap"
)

// first is the process that is there from the beginning, and never ends; rootBox is the container that its own is a child of.
const (
	first   = 0
	rootBox = 0
)

// ownRoot is what a process is charged for when it has no pages.
const ownRoot = 1

// process is what a model knows of one.
type process struct {
	parent  int // who spawned it; first's is first itself
	box     int
	state   trap.State
	regions region.List
	leads   map[int]*content // each page that leads somewhere: to which bytes
	ways    map[way]int      // each table that would stand on the way to such a page: to how many
}

// spawn: a process more, that may have so many of this one's frames.
func (m *Model) spawn(pid, quota int) kernel.Result {
	child, e := m.begin(pid, m.procs[pid].box, quota)
	return kernel.Result{X: uint64(child), Err: e}
}

// exit: the process whose turn it is ends.
func (m *Model) exit(pid int) api.Errno {
	if pid == first {
		return api.ErrPerm
	}
	m.end(pid)
	return api.OK
}

// begin: a process waits behind all others, without pages, and with a container out of that one; its number.
func (m *Model) begin(parent, box, quota int) (int, api.Errno) {
	pid := m.unused()
	if pid == api.MaxProcs {
		return 0, api.ErrBig
	}
	own, e := m.boxes.Child(box, quota)
	if e != api.OK {
		return 0, e
	}
	if e := m.boxes.Charge(own, ownRoot); e != api.OK {
		m.boxes.End(own)
		return 0, e
	}
	m.procs[pid] = &process{parent: parent, box: own, leads: map[int]*content{}, ways: map[way]int{}}
	m.turns.Add(pid)
	return pid, api.OK
}

// end: a process is gone, and all that it spawned ahead of it. It isn't the first one, whose parent would be itself.
func (m *Model) end(pid int) {
	for _, child := range m.children(pid) {
		m.end(child)
	}
	for _, g := range m.grants.Clear(pid) {
		m.giveBack(g)
	}
	box := m.procs[pid].box
	m.boxes.Credit(box, m.Used(pid))
	m.boxes.End(box)
	m.turns.Remove(pid)
	delete(m.procs, pid)
}

// unused: the least number that no process has; MaxProcs, if all are had.
func (m *Model) unused() int {
	pid := 0
	for m.procs[pid] != nil {
		pid++
	}
	return pid
}

// children: those that a process spawned, rising.
func (m *Model) children(pid int) []int {
	var all []int
	for n := range api.MaxProcs {
		if p := m.procs[n]; p != nil && p.parent == pid {
			all = append(all, n)
		}
	}
	return all
}
