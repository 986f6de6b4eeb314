package flat

import (
	"demesne/api"
	"demesne/call"
	"demesne/kernel"
	"demesne/region"
	"demesne/trap"
	"demesne/walk"
)

// access: a load or a store. All bytes of the number are of one page, for its size divides its address.
func (m *Model) access(p *process, c call.Call) kernel.Result {
	page := int(c.Addr / api.PageSize)
	use := api.Access{Write: c.Op == call.Store, User: true}
	r, ok := region.Find(p.regions, page)
	if !ok || !walk.May(r.Perm, use) {
		return p.fault(api.Fault{Addr: c.Addr, Code: code(use, p.leads[page] != nil)})
	}
	if p.leads[page] == nil {
		if e := m.lead(p, page, own, &content{}); e != api.OK {
			return kernel.Result{Err: e}
		}
	}
	return p.leads[page].move(c)
}

// fault: the process is told of it, and, if it has an entry and isn't there, it goes on there.
func (p *process) fault(f api.Fault) kernel.Result {
	told := kernel.Result{Err: api.ErrFault, Fault: f}
	if raised, e := trap.Raise(p.state, f); e == api.OK {
		p.state = raised
		told.Up = true
	}
	return told
}

// move: the bytes of a number are loaded, or stored, the lowest first.
func (b *content) move(c call.Call) kernel.Result {
	at := int(c.Addr % api.PageSize)
	var x uint64
	for i := range c.Size {
		if c.Op == call.Store {
			b[at+i] = byte(c.X >> (8 * i))
		} else {
			x |= uint64(b[at+i]) << (8 * i)
		}
	}
	return kernel.Result{X: x}
}

// code: a fault's, of an access by a user to a page that leads somewhere or doesn't.
func code(use api.Access, there bool) int {
	c := walk.User
	if use.Write {
		c |= walk.Write
	}
	if there {
		c |= walk.There
	}
	return c
}
