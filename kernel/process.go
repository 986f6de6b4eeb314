package kernel

import (
	"demesne/api"
	"demesne/trap"
)

// first is the process that is there from the beginning, and never ends; rootBox is the container that its own is a child of.
const (
	first   = 0
	rootBox = 0
)

// process is what a kernel knows of one.
type process struct {
	parent int // who spawned it; first's is first itself
	box    int
	space  int
	state  trap.State
}

// spawn: a process more, that may have so many of this one's frames.
func (k *Kernel) spawn(pid, quota int) Result {
	child, e := k.begin(pid, k.procs[pid].box, quota)
	return Result{X: uint64(child), Err: e}
}

// exit: the process whose turn it is ends.
func (k *Kernel) exit(pid int) api.Errno {
	if pid == first {
		return api.ErrPerm
	}
	k.end(pid)
	return api.OK
}

// begin: a process waits behind all others, with a space, and a container out of that one; its number.
func (k *Kernel) begin(parent, box, quota int) (int, api.Errno) {
	pid := k.unused()
	if pid == api.MaxProcs {
		return 0, api.ErrBig
	}
	own, e := k.machine.Tree.Child(box, quota)
	if e != api.OK {
		return 0, e
	}
	if e := k.machine.Open(k.began, own); e != api.OK {
		k.machine.Tree.End(own)
		return 0, e
	}
	k.procs[pid] = &process{parent: parent, box: own, space: k.began}
	k.began++
	k.turns.Add(pid)
	return pid, api.OK
}

// end: a process is gone, and all that it spawned ahead of it. It isn't the first one, whose parent would be itself.
func (k *Kernel) end(pid int) {
	for _, child := range k.children(pid) {
		k.end(child)
	}
	for _, g := range k.grants.Clear(pid) {
		k.giveBack(g)
	}
	p := k.procs[pid]
	k.machine.Close(p.space)
	k.machine.Tree.End(p.box)
	k.turns.Remove(pid)
	delete(k.procs, pid)
}

// unused: the least number that no process has; MaxProcs, if all are had.
func (k *Kernel) unused() int {
	pid := 0
	for k.procs[pid] != nil {
		pid++
	}
	return pid
}

// children: those that a process spawned, rising.
func (k *Kernel) children(pid int) []int {
	var all []int
	for n := range api.MaxProcs {
		if p := k.procs[n]; p != nil && p.parent == pid {
			all = append(all, n)
		}
	}
	return all
}
