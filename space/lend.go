package space

import (
	"slices"

	"demesne/api"
	"demesne/region"
	"demesne/table"
)

// Lendable: may a page be lent, to be written or not?
func (m *Machine) Lendable(id, page int, write bool) api.Errno {
	s := m.spaces[id]
	if s == nil {
		return api.ErrNone
	}
	return s.lendable(page, api.Perm{Write: write})
}

// Lend: a page of a space that leads to a frame of its own is another one's, too.
func (m *Machine) Lend(id, page, to, at int, perm api.Perm) api.Errno {
	lender, taker := m.spaces[id], m.spaces[to]
	if lender == nil || taker == nil {
		return api.ErrNone
	}
	if e := lender.lendable(page, perm); e != api.OK {
		return e
	}
	regions, e := region.Add(taker.regions, region.Region{Pages: single(at), Perm: perm, Kind: Borrowed})
	if e != api.OK {
		return e
	}
	frame, _, _ := m.leads(lender, page)
	if e := table.Map(m.purse(taker.box), taker.root, at, frame, perm); e != api.OK {
		return e
	}
	taker.regions = regions
	lender.lent[page]++
	return api.OK
}

// Back: a page that was lent is the borrower's no more.
func (m *Machine) Back(id, page, to, at int) api.Errno {
	lender, taker := m.spaces[id], m.spaces[to]
	if lender == nil || taker == nil || lender.lent[page] == 0 {
		return api.ErrNone
	}
	r, ok := region.Find(taker.regions, at)
	if !ok || r.Kind != Borrowed || !m.alike(lender, page, taker, at) {
		return api.ErrNone
	}
	table.Unmap(m.purse(taker.box), taker.root, at)
	m.forget(to, at)
	taker.regions = without(taker.regions, r, at)
	lender.lent[page]--
	return api.OK
}

// alike: do two pages, both of which lead somewhere, lead to the same frame?
func (m *Machine) alike(s *space, page int, other *space, at int) bool {
	a, _, _ := m.leads(s, page)
	b, _, _ := m.leads(other, at)
	return a == b
}

// lendable: why a page can't be lent, to be used so.
func (s *space) lendable(page int, perm api.Perm) api.Errno {
	if _, ok := s.lent[page]; !ok {
		return api.ErrNone
	}
	r, _ := region.Find(s.regions, page)
	if perm.Write && !r.Perm.Write || perm.Exec && !r.Perm.Exec {
		return api.ErrPerm
	}
	return api.OK
}

// without: regions of which one, r, has a page less. That one alone is cut, for giving back isn't refused where region.Cut of them all would be: there may be one region more behind it than a list can have.
func without(l region.List, r region.Region, page int) region.List {
	i := slices.Index(l, r)
	rest, _ := region.Cut(region.List{r}, single(page))
	return slices.Concat(l[:i], rest, l[i+1:])
}

// single: a page as a range.
func single(page int) api.Range {
	return api.Range{From: page, To: page + 1}
}
