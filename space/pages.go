package space

import (
	"demesne/api"
	"demesne/region"
	"demesne/table"
	"demesne/walk"
)

// Map: pages more.
func (m *Machine) Map(id int, p api.Range, perm api.Perm) api.Errno {
	s := m.spaces[id]
	if s == nil {
		return api.ErrNone
	}
	regions, e := region.Add(s.regions, region.Region{Pages: p, Perm: perm, Kind: Own})
	if e != api.OK {
		return e
	}
	s.regions = regions
	return api.OK
}

// Unmap: pages are the space's no more.
func (m *Machine) Unmap(id int, p api.Range) api.Errno {
	s := m.spaces[id]
	if s == nil {
		return api.ErrNone
	}
	regions, e := region.Cut(s.regions, p)
	if e != api.OK {
		return e
	}
	led := s.led(p)
	if s.borrows(p) || s.lends(led) {
		return api.ErrBusy
	}
	m.release(id, s, led)
	s.regions = regions
	return api.OK
}

// Protect: pages may be used otherwise.
func (m *Machine) Protect(id int, p api.Range, perm api.Perm) api.Errno {
	s := m.spaces[id]
	if s == nil {
		return api.ErrNone
	}
	regions, e := region.Protect(s.regions, p, perm)
	if e != api.OK {
		return e
	}
	led := s.led(p)
	if s.borrows(p) || s.lends(led) {
		return api.ErrBusy
	}
	for _, page := range led {
		table.Protect(m.purse(s.box), s.root, page, perm)
		m.forget(id, page)
	}
	s.regions = regions
	return api.OK
}

// Touch: a page leads to a frame, of zeros if it led nowhere; or it may not be used so.
func (m *Machine) Touch(id, page int, a api.Access) (int, int, api.Errno) {
	s := m.spaces[id]
	if s == nil {
		return 0, 0, api.ErrNone
	}
	r, ok := region.Find(s.regions, page)
	frame, _, there := m.leads(s, page)
	if !ok || !walk.May(r.Perm, a) {
		return 0, code(a, there), api.ErrFault
	}
	if there {
		return frame, 0, api.OK
	}
	frame, e := m.supply(s, page, r.Perm)
	return frame, 0, e
}

// supply: a page that led nowhere leads to a frame of zeros. It becomes zeros when the tables are there: no byte has changed, if they are refused.
func (m *Machine) supply(s *space, page int, perm api.Perm) (int, api.Errno) {
	frame, e := m.reserve(s.box)
	if e != api.OK {
		return 0, e
	}
	p := m.purse(s.box)
	if e := table.Map(p, s.root, page, frame, perm); e != api.OK {
		p.Give(frame)
		return 0, e
	}
	m.RAM.Zero(frame)
	s.lent[page] = 0
	return frame, api.OK
}

// reserve: a frame that a container is charged for, with the bytes that it has.
func (m *Machine) reserve(box int) (int, api.Errno) {
	if e := m.Tree.Charge(box, 1); e != api.OK {
		return 0, e
	}
	frame, e := m.Free.Take(0)
	if e != api.OK {
		m.Tree.Credit(box, 1)
		return 0, e
	}
	return frame, api.OK
}

// release: pages that led to frames of the space's own lead nowhere, and the frames are given back.
func (m *Machine) release(id int, s *space, led []int) {
	p := m.purse(s.box)
	for _, page := range led {
		frame, _ := table.Unmap(p, s.root, page)
		p.Give(frame)
		delete(s.lent, page)
		m.forget(id, page)
	}
}

// forget: what is kept of a page of a space is gone. Without a tag nothing is.
func (m *Machine) forget(id, page int) {
	if tag, ok := m.Tags.Tag(id); ok {
		m.TLB.Page(tag, page)
	}
}

// led: those of these pages that lead to frames of the space's own, rising.
func (s *space) led(p api.Range) []int {
	var pages []int
	for page := p.From; page < p.To; page++ {
		if _, ok := s.lent[page]; ok {
			pages = append(pages, page)
		}
	}
	return pages
}

// lends: is one of these pages lent?
func (s *space) lends(pages []int) bool {
	for _, page := range pages {
		if s.lent[page] > 0 {
			return true
		}
	}
	return false
}

// borrows: is one of these pages another space's?
func (s *space) borrows(p api.Range) bool {
	for _, r := range s.regions {
		if r.Kind == Borrowed && region.Count(region.List{r}, p) > 0 {
			return true
		}
	}
	return false
}

// code: a fault's, of an access to a page that leads somewhere or doesn't.
func code(a api.Access, there bool) int {
	c := 0
	if there {
		c |= walk.There
	}
	if a.Write {
		c |= walk.Write
	}
	if a.User {
		c |= walk.User
	}
	if a.Fetch {
		c |= walk.Fetch
	}
	return c
}
