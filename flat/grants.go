package flat

import (
	"slices"

	"demesne/api"
	"demesne/call"
	"demesne/kernel"
	"demesne/region"
	"demesne/share"
)

// offer: a page that can be lent is offered to another process.
func (m *Model) offer(pid int, c call.Call) kernel.Result {
	if m.procs[c.Id] == nil || c.Id == pid {
		return kernel.Result{Err: api.ErrNone}
	}
	page := c.Pages.From
	if e := m.procs[pid].lendable(page, c.Perm.Write); e != api.OK {
		return kernel.Result{Err: e}
	}
	id, e := m.grants.Offer(pid, page, c.Id, c.Perm.Write)
	return kernel.Result{X: uint64(id), Err: e}
}

// accept: a process has the page of a grant, too. The owner may have changed that page since it offered it, so the lending may still be refused.
func (m *Model) accept(pid int, c call.Call) api.Errno {
	at := c.Pages.From
	if e := m.grants.Accept(c.Id, pid, at); e != api.OK {
		return e
	}
	g, _ := m.grants.Get(c.Id)
	e := m.lend(g)
	if e != api.OK {
		m.grants.Leave(c.Id, pid)
	}
	return e
}

// lend: the page of a grant that is to be taken leads to its owner's bytes.
func (m *Model) lend(g share.Grant) api.Errno {
	owner, taker := m.procs[g.From], m.procs[g.To]
	if e := owner.lendable(g.Page, g.Write); e != api.OK {
		return e
	}
	more := region.Region{Pages: single(g.At), Perm: api.Perm{Write: g.Write, User: true}, Kind: borrowed}
	regions, e := region.Add(taker.regions, more)
	if e != api.OK {
		return e
	}
	if e := m.lead(taker, g.At, borrowed, owner.leads[g.Page]); e != api.OK {
		return e
	}
	taker.regions = regions
	return api.OK
}

// lendable: why a page can't be lent, to be written or not.
func (p *process) lendable(page int, write bool) api.Errno {
	r, _ := region.Find(p.regions, page)
	switch {
	case r.Kind == borrowed || p.leads[page] == nil:
		return api.ErrNone
	case write && !r.Perm.Write:
		return api.ErrPerm
	}
	return api.OK
}

// lends: is one of these pages of a process taken by another one?
func (m *Model) lends(pid int, pages api.Range) bool {
	for _, id := range m.grants.Of(pid) {
		g, _ := m.grants.Get(id)
		if g.Taken && g.From == pid && pages.From <= g.Page && g.Page < pages.To {
			return true
		}
	}
	return false
}

// undo: a grant is revoked by who offered it, or left by who took it.
func (m *Model) undo(pid int, c call.Call) api.Errno {
	end := m.grants.Revoke
	if c.Op == call.Leave {
		end = m.grants.Leave
	}
	g, e := end(c.Id, pid)
	if e != api.OK {
		return e
	}
	m.giveBack(g)
	return api.OK
}

// giveBack: the page of a grant that was taken is the taker's no more. The taker is there still: with a process its grants go ahead of it.
func (m *Model) giveBack(g share.Grant) {
	if !g.Taken {
		return
	}
	taker := m.procs[g.To]
	m.unlead(taker, g.At, borrowed)
	taker.regions = without(taker.regions, g.At)
}

// without: regions of which one has a page less. That one alone is cut, for giving back isn't refused where region.Cut of them all would be: there may be one region more behind it than a list can have.
func without(l region.List, page int) region.List {
	i := slices.IndexFunc(l, func(r region.Region) bool {
		return r.Pages.From <= page && page < r.Pages.To
	})
	rest, _ := region.Cut(l[i:i+1], single(page))
	return slices.Concat(l[:i], rest, l[i+1:])
}
