package flat

import (
	"demesne/api"
	"demesne/call"
	"demesne/kernel"
	"demesne/trap"
)

// serve: what a process asks is done; what it is told of it, but for its number.
func (m *Model) serve(pid int, c call.Call) kernel.Result {
	switch c.Op {
	case call.Load, call.Store:
		return m.access(m.procs[pid], c)
	case call.Offer:
		return m.offer(pid, c)
	case call.Spawn:
		return m.spawn(pid, c.Id)
	}
	return kernel.Result{Err: m.change(pid, c)}
}

// change: of a call of which nothing is told but the error.
func (m *Model) change(pid int, c call.Call) api.Errno {
	switch c.Op {
	case call.Map:
		return m.procs[pid].add(c)
	case call.Unmap:
		return m.unmap(pid, c)
	case call.Protect:
		return m.protect(pid, c)
	case call.Accept:
		return m.accept(pid, c)
	case call.Revoke, call.Leave:
		return m.undo(pid, c)
	case call.Exit:
		return m.exit(pid)
	case call.Yield:
		m.turns.Yield()
		return api.OK
	}
	return m.procs[pid].alter(c)
}

// alter: of a call that is about the process's own state.
func (p *process) alter(c call.Call) (e api.Errno) {
	// Beside an error trap answers the state as it was.
	switch c.Op {
	case call.Handler:
		p.state, e = trap.Handle(p.state, c.Addr)
	case call.Return:
		p.state, e = trap.Return(p.state)
	case call.Reckon:
		p.state, e = trap.Reckon(p.state, c.Id, c.A, c.B, c.D)
	case call.Move:
		p.state, e = trap.Move(p.state, c.Id, c.X)
	}
	return e
}
