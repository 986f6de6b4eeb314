package flat

import (
	"demesne/api"
	"demesne/call"
	"demesne/region"
)

// The kinds of regions.
const (
	own      = 0 // the process has bytes of its own there
	borrowed = 1 // another one's
)

// content is the bytes that a page leads to, or several pages, if it is lent.
type content [api.PageSize]byte

// way is a table that would stand on the way to pages: to those with this number by 2^bits.
type way struct {
	bits, number int
}

// waysTo: the tables that would stand on the way to a page, below the root.
func waysTo(page int) [3]way {
	return [3]way{{9, page >> 9}, {18, page >> 18}, {27, page >> 27}}
}

// add: pages more, which lead nowhere yet.
func (p *process) add(c call.Call) api.Errno {
	regions, e := region.Add(p.regions, region.Region{Pages: c.Pages, Perm: c.Perm, Kind: own})
	if e != api.OK {
		return e
	}
	p.regions = regions
	return api.OK
}

// unmap: pages are the process's no more.
func (m *Model) unmap(pid int, c call.Call) api.Errno {
	p := m.procs[pid]
	regions, e := region.Cut(p.regions, c.Pages)
	if e != api.OK {
		return e
	}
	if p.borrows(c.Pages) || m.lends(pid, c.Pages) {
		return api.ErrBusy
	}
	for page := c.Pages.From; page < c.Pages.To; page++ {
		if p.leads[page] != nil {
			m.unlead(p, page, own)
		}
	}
	p.regions = regions
	return api.OK
}

// protect: pages may be used otherwise.
func (m *Model) protect(pid int, c call.Call) api.Errno {
	p := m.procs[pid]
	regions, e := region.Protect(p.regions, c.Pages, c.Perm)
	if e != api.OK {
		return e
	}
	if p.borrows(c.Pages) || m.lends(pid, c.Pages) {
		return api.ErrBusy
	}
	p.regions = regions
	return api.OK
}

// borrows: is one of these pages another process's?
func (p *process) borrows(pages api.Range) bool {
	for _, r := range p.regions {
		if r.Kind == borrowed && region.Count(region.List{r}, pages) > 0 {
			return true
		}
	}
	return false
}

// lead: a page that led nowhere leads to these bytes, if the process may have what that costs.
func (m *Model) lead(p *process, page, kind int, to *content) api.Errno {
	cost := ownCost(kind)
	for _, w := range waysTo(page) {
		if p.ways[w] == 0 {
			cost++
		}
	}
	if e := m.boxes.Charge(p.box, cost); e != api.OK {
		return e
	}
	for _, w := range waysTo(page) {
		p.ways[w]++
	}
	p.leads[page] = to
	return api.OK
}

// unlead: a page that led somewhere leads nowhere, and what it cost is the container's again.
func (m *Model) unlead(p *process, page, kind int) {
	cost := ownCost(kind)
	for _, w := range waysTo(page) {
		p.ways[w]--
		if p.ways[w] == 0 {
			delete(p.ways, w)
			cost++
		}
	}
	m.boxes.Credit(p.box, cost)
	delete(p.leads, page)
}

// ownCost: what a page costs beside tables. For a borrowed one its owner is charged.
func ownCost(kind int) int {
	if kind == borrowed {
		return 0
	}
	return 1
}

// single: a page as a range.
func single(page int) api.Range {
	return api.Range{From: page, To: page + 1}
}
