package audit

import (
	"demesne/api"
	"demesne/pte"
	"demesne/ram"
	"demesne/region"
	"demesne/space"
	"demesne/table"
)

// rootLevel is the level of a root; placeBits, of how many bits a place in a table is; entrySize, how many bytes an entry has.
const (
	rootLevel = 4
	placeBits = 9
	entrySize = 8
)

// each: a function looks at all entries of a table that lead somewhere, and their places, rising.
func each(r *ram.RAM, table int, look func(place int, e pte.Entry)) {
	for place := range 1 << placeBits {
		x, _ := r.Load(uint64(table)*api.PageSize+uint64(place)*entrySize, entrySize)
		if x == 0 {
			continue // so are most of them: they needn't be unpacked
		}
		if e := pte.Unpack(x); e.Present {
			look(place, e)
		}
	}
}

// noteKernel: the kernel's tables, as the root of a space shows them. Below those of level 2 there are none: they lead to large pages.
func noteKernel(m *space.Machine, id int, note func(Use)) {
	root, _ := m.Root(id)
	each(m.RAM, root, func(place int, top pte.Entry) {
		if place != table.Direct {
			return
		}
		note(Use{Frame: top.Frame, For: Kernel})
		each(m.RAM, top.Frame, func(_ int, e pte.Entry) {
			note(Use{Frame: e.Frame, For: Kernel})
		})
	})
}

// noteSpace: a space's tables, and the frames that its own pages lead to. Those of borrowed pages are their owner's.
func noteSpace(m *space.Machine, id int, note func(Use)) {
	root, _ := m.Root(id)
	regions := m.Regions(id)
	var below func(frame, level, first int)
	below = func(frame, level, first int) {
		note(Use{Frame: frame, For: Table, Space: id})
		each(m.RAM, frame, func(place int, e pte.Entry) {
			page := first + place<<(placeBits*(level-1))
			switch {
			case page >= api.TopPage: // the kernel's part of the root
			case level > 1:
				below(e.Frame, level-1, page)
			case isOwn(regions, page):
				note(Use{Frame: e.Frame, For: Data, Space: id})
			}
		})
	}
	below(root, rootLevel, 0)
}

// isOwn: is a page of kind Own?
func isOwn(l region.List, page int) bool {
	r, ok := region.Find(l, page)
	return ok && r.Kind == space.Own
}
