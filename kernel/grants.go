package kernel

import (
	"demesne/api"
	"demesne/call"
	"demesne/share"
)

// offer: a page that can be lent is offered to another process.
func (k *Kernel) offer(pid int, c call.Call) Result {
	if k.procs[c.Id] == nil || c.Id == pid {
		return Result{Err: api.ErrNone}
	}
	page := c.Pages.From
	if e := k.machine.Lendable(k.procs[pid].space, page, c.Perm.Write); e != api.OK {
		return Result{Err: e}
	}
	id, e := k.grants.Offer(pid, page, c.Id, c.Perm.Write)
	return Result{X: uint64(id), Err: e}
}

// accept: a process has the page of a grant, too. The owner may have changed that page since it offered it, so the lending may still be refused.
func (k *Kernel) accept(pid int, c call.Call) api.Errno {
	at := c.Pages.From
	if e := k.grants.Accept(c.Id, pid, at); e != api.OK {
		return e
	}
	g, _ := k.grants.Get(c.Id)
	perm := api.Perm{Write: g.Write, User: true}
	e := k.machine.Lend(k.procs[g.From].space, g.Page, k.procs[pid].space, at, perm)
	if e != api.OK {
		k.grants.Leave(c.Id, pid)
	}
	return e
}

// undo: a grant is revoked by who offered it, or left by who took it.
func (k *Kernel) undo(pid int, c call.Call) api.Errno {
	end := k.grants.Revoke
	if c.Op == call.Leave {
		end = k.grants.Leave
	}
	g, e := end(c.Id, pid)
	if e != api.OK {
		return e
	}
	k.giveBack(g)
	return api.OK
}

// giveBack: the page of a grant that was taken is the taker's no more. Both are there still: with a process its grants go ahead of it.
func (k *Kernel) giveBack(g share.Grant) {
	if g.Taken {
		k.machine.Back(k.procs[g.From].space, g.Page, k.procs[g.To].space, g.At)
	}
}
