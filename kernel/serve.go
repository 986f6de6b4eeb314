package kernel

import (
	"demesne/api"
	"demesne/call"
	"demesne/trap"
)

// serve: what a process asks is done; what it is told of it, but for its number.
func (k *Kernel) serve(pid int, c call.Call) Result {
	switch c.Op {
	case call.Load, call.Store:
		return k.access(pid, c)
	case call.Offer:
		return k.offer(pid, c)
	case call.Spawn:
		return k.spawn(pid, c.Id)
	}
	return Result{Err: k.change(pid, c)}
}

// change: of a call of which nothing is told but the error.
func (k *Kernel) change(pid int, c call.Call) api.Errno {
	p := k.procs[pid]
	switch c.Op {
	case call.Map:
		return k.machine.Map(p.space, c.Pages, c.Perm)
	case call.Unmap:
		return k.machine.Unmap(p.space, c.Pages)
	case call.Protect:
		return k.machine.Protect(p.space, c.Pages, c.Perm)
	case call.Accept:
		return k.accept(pid, c)
	case call.Revoke, call.Leave:
		return k.undo(pid, c)
	case call.Exit:
		return k.exit(pid)
	case call.Yield:
		k.turns.Yield()
		return api.OK
	}
	return p.alter(c)
}

// alter: of a call that is about the process's own state.
func (p *process) alter(c call.Call) (e api.Errno) {
	// Beside an error trap answers the state as it was.
	switch c.Op {
	case call.Handler:
		p.state, e = trap.Handle(p.state, c.Addr)
	case call.Return:
		p.state, e = trap.Return(p.state)
	case call.Reckon:
		p.state, e = trap.Reckon(p.state, c.Id, c.A, c.B, c.D)
	case call.Move:
		p.state, e = trap.Move(p.state, c.Id, c.X)
	}
	return e
}

// access: a load or a store. Of a fault the process is told, and, if it has an entry and isn't there, it goes on there.
func (k *Kernel) access(pid int, c call.Call) Result {
	p := k.procs[pid]
	x, fault, e := k.cpu.Do(p.space, c.Addr, c.Size, c.Op == call.Store, c.X)
	told := Result{X: x, Err: e, Fault: fault}
	if e != api.ErrFault {
		return told
	}
	if raised, e := trap.Raise(p.state, fault); e == api.OK {
		p.state = raised
		told.Up = true
	}
	return told
}
