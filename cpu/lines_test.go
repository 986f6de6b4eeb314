package cpu

import (
	"math"
	"slices"
	"testing"

	"demesne/api"
	"demesne/space"
	"demesne/tlb"
)

// line: what a processor keeps of a page of a space.
func line(t *testing.T, m *space.Machine, id, page int, perm api.Perm, dirty bool) tlb.Line {
	t.Helper()
	tag, ok := m.Tags.Tag(id)
	if !ok {
		t.Fatalf("space %d has no tag", id)
	}
	return tlb.Line{Valid: true, Tag: tag, Page: page, Frame: frameOf(t, m, id, page), Perm: perm, Dirty: dirty}
}

// full: a processor whose TLB has a line at each place: page 8w + s in way w of set s.
func full(t *testing.T, more ...int) *CPU {
	t.Helper()
	m := machine(t, 60, 3)
	must(t, "Open", m.Open(1, 0))
	must(t, "Map", m.Map(1, pages(0, 24), write))
	c := New(m, slices.Concat(slices.Repeat([]int{way0}, 8), slices.Repeat([]int{way1}, 8), more))
	for page := range uint64(16) {
		store(t, c, 1, page*4096, 8, page)
	}
	wantLeft(t, c, len(more))
	if n := len(m.TLB.Lines()); n != 16 {
		t.Fatalf("%d lines", n)
	}
	return c
}

// P13.1: what each choice evicts and fills, of numbers of all sizes; a choice is its remainder by 51.
func TestChoices(t *testing.T) {
	var lists []int
	for r := range 51 {
		lists = append(lists, r, r+51, r-51, r+51*1000, r-51*1000)
	}
	lists = append(lists, 1<<40, -1<<40, math.MaxInt, math.MaxInt-1, math.MinInt, math.MinInt+1, math.MinInt+50, math.MinInt+51)
	for _, choice := range lists {
		c := full(t, choice)
		lines := map[[2]int]tlb.Line{}
		for i, l := range c.M.TLB.Lines() {
			lines[[2]int{i / 2, i % 2}] = l
		}
		load(t, c, 1, 19*4096, 8, 0) // its set is 3
		r := choice % 51
		if r < 0 {
			r += 51
		}
		if n := r / 3; n > 0 {
			delete(lines, [2]int{(n - 1) % 8, (n - 1) / 8})
		}
		if w := r % 3; w > 0 {
			lines[[2]int{3, w - 1}] = line(t, c.M, 1, 19, write, false)
		}
		var want []tlb.Line
		for i := range 16 {
			if l, ok := lines[[2]int{i / 2, i % 2}]; ok {
				want = append(want, l)
			}
		}
		wantLines(t, c.M, want...)
		wantLeft(t, c, 0)
		wantFresh(t, c.M)
		for page := range uint64(16) {
			load(t, c, 1, page*4096, 8, page)
		}
		wantLines(t, c.M, want...) // none is left: nothing is evicted, nothing kept
	}
}

// P13.1: choices are used in their order, one for each access that is in form.
func TestChoicesOrder(t *testing.T) {
	c := single(t, way1, none, evict(0, 1)+way0, 51+way0, -51*3, way0)
	store(t, c, 1, 0, 8, 1)
	first := line(t, c.M, 1, 0, write, true)
	wantLines(t, c.M, first)
	store(t, c, 1, 4096, 8, 2)
	wantLines(t, c.M, first)
	store(t, c, 1, 2*4096, 8, 3)
	third := line(t, c.M, 1, 2, write, true)
	wantLines(t, c.M, third)
	load(t, c, 1, 4096, 8, 2)
	second := line(t, c.M, 1, 1, write, true) // it is Dirty: so is its entry
	wantLines(t, c.M, second, third)
	load(t, c, 1, 0, 8, 1)
	wantLines(t, c.M, second, third)
	wantLeft(t, c, 1)
	load(t, c, 1, 2*4096, 8, 3) // by the line: nothing is filled
	wantLines(t, c.M, second, third)
	wantLeft(t, c, 0)
	load(t, c, 1, 0, 8, 1)
	wantLines(t, c.M, second, third)
}

// P13.1: a load keeps a line that isn't Dirty; a store walks in spite of it, and keeps one that is, if that is chosen.
func TestDirty(t *testing.T) {
	for _, second := range []int{none, way0, way1} {
		c := single(t, way0, none, second, way0)
		load(t, c, 1, 0, 8, 0)
		clean := line(t, c.M, 1, 0, write, false)
		wantLines(t, c.M, clean)
		load(t, c, 1, 8, 8, 0)
		wantLines(t, c.M, clean)
		dirtyEntry(t, c.M, 0, false)
		store(t, c, 1, 8, 8, 5)
		dirtyEntry(t, c.M, 0, true)
		dirty := line(t, c.M, 1, 0, write, true)
		if second == none {
			wantLines(t, c.M, clean)
		} else {
			wantLines(t, c.M, dirty) // the other one is gone, also from the other way
		}
		store(t, c, 1, 16, 8, 6)
		wantLines(t, c.M, dirty)
		load(t, c, 1, 8, 8, 5)
		wantFresh(t, c.M)
	}
}

// dirtyEntry: is the entry of a page of space 1 (in its first table) Dirty?
func dirtyEntry(t *testing.T, m *space.Machine, page int, want bool) {
	t.Helper()
	if entry, _ := m.RAM.Load(entryAt(m, page), 8); entry&0x40 != 0 != want {
		t.Errorf("entry of page %d: %#x", page, entry)
	}
}

// entryAt: where the entry of a page below 512 of space 1 stands.
func entryAt(m *space.Machine, page int) uint64 {
	table, _ := m.Root(1)
	for range 3 {
		entry, _ := m.RAM.Load(uint64(table)*4096, 8)
		table = int(entry >> 12 & (1<<20 - 1))
	}
	return uint64(table)*4096 + uint64(page)*8
}

// P13.1: by a line nothing is walked for: no entry is marked, no frame comes.
func TestLineIsUsed(t *testing.T) {
	c := single(t, way0)
	store(t, c, 1, 0, 8, 5)
	at := entryAt(c.M, 0)
	entry, _ := c.M.RAM.Load(at, 8)
	c.M.RAM.Store(at, 8, entry&^0x60)
	load(t, c, 1, 0, 8, 5)
	store(t, c, 1, 0, 8, 6)
	if now, _ := c.M.RAM.Load(at, 8); now != entry&^0x60 {
		t.Errorf("the entry was marked: %#x", now)
	}
	must(t, "Evict", c.M.TLB.Evict(0, 0))
	load(t, c, 1, 0, 8, 6)
	if now, _ := c.M.RAM.Load(at, 8); now != entry&^0x40 {
		t.Errorf("the entry wasn't marked by a load: %#x", now)
	}
	store(t, c, 1, 0, 8, 7)
	if now, _ := c.M.RAM.Load(at, 8); now != entry {
		t.Errorf("the entry wasn't marked by a store: %#x", now)
	}
}

// P13.1: which lines will do. They are put there by hand, with a frame by which the use of them shows.
func TestLineFits(t *testing.T) {
	yes := api.Perm{Write: true, User: true, Exec: true}
	for i, k := range []struct {
		change         func(l *tlb.Line)
		loaded, stored bool
	}{
		{func(l *tlb.Line) {}, true, true},
		{func(l *tlb.Line) { l.Dirty = false }, true, false},
		{func(l *tlb.Line) { l.Perm.Write = false }, true, false},
		{func(l *tlb.Line) { l.Perm.Exec = false }, true, true},
		{func(l *tlb.Line) { l.Perm.User = false }, false, false},
		{func(l *tlb.Line) { l.Perm = api.Perm{} }, false, false},
		{func(l *tlb.Line) { l.Tag = 2 }, false, false},
		{func(l *tlb.Line) { l.Tag = 0 }, false, false},
		{func(l *tlb.Line) { l.Page = 8 }, false, false},
		{func(l *tlb.Line) { l.Page = 1 }, false, false},
		{func(l *tlb.Line) { l.Global = true }, true, true},
		{func(l *tlb.Line) { l.Global = true; l.Tag = 9 }, true, true},
		{func(l *tlb.Line) { l.Global = true; l.Dirty = false }, true, false},
	} {
		for way := range 2 {
			c := single(t)
			store(t, c, 1, 0, 8, 5)
			store(t, c, 1, 4096, 8, 6)
			other := frameOf(t, c.M, 1, 1)
			l := tlb.Line{Valid: true, Tag: 1, Page: 0, Frame: other, Perm: yes, Dirty: true}
			k.change(&l)
			must(t, "Fill", c.M.TLB.Fill(way, l))
			want := uint64(5)
			if k.loaded {
				want = 6
			}
			if v, _, e := c.Do(1, 0, 8, false, 0); v != want || e != api.OK {
				t.Errorf("%d: load: %d, %d; want %d", i, v, e, want)
			}
			store(t, c, 1, 0, 8, 9)
			if x, _ := c.M.RAM.Load(uint64(other)*4096, 8); x == 9 != k.stored {
				t.Errorf("%d: store: %d", i, x)
			}
			wantLines(t, c.M, l)
		}
	}
}

// P13.1: the line that is filled has the use of the page, not the access's, whatever it is.
func TestFilled(t *testing.T) {
	all := []api.Perm{read, write, exec, {Write: true, User: true, Exec: true}}
	for way := range 2 {
		c := single(t, slices.Repeat([]int{way0 + way}, 20)...)
		must(t, "Unmap", c.M.Unmap(1, pages(0, 4)))
		for page, perm := range all {
			must(t, "Map", c.M.Map(1, pages(page, page+1), perm))
			load(t, c, 1, uint64(page)*4096, 8, 0)
		}
		var want []tlb.Line
		for page, perm := range all {
			want = append(want, line(t, c.M, 1, page, perm, false))
		}
		wantLines(t, c.M, want...)
		wantFresh(t, c.M)
	}
}

// P13.1: pages far from each other, in each of the sets.
func TestFilledFar(t *testing.T) {
	m := machine(t, 60, 3)
	must(t, "Open", m.Open(1, 0))
	var want []tlb.Line
	c := New(m, slices.Repeat([]int{way1}, 8))
	for set, page := range []int{1 << 34, 1<<9 + 1, 1<<18 + 2, 1<<27 + 3, 4, 1<<30 + 5, 1<<35 - 2, 1<<35 - 1} {
		must(t, "Map", m.Map(1, pages(page, page+1), write))
		store(t, c, 1, uint64(page)*4096+4088, 8, uint64(set+1))
		want = append(want, line(t, m, 1, page, write, true))
	}
	wantLines(t, m, want...)
	for set, l := range want {
		load(t, c, 1, uint64(l.Page)*4096+4088, 8, uint64(set+1))
	}
}

// P13.1: a space has its tag behind an access, also one that faults; behind one that is refused by ErrArg or ErrNone none.
func TestTagGiven(t *testing.T) {
	c := single(t)
	for id := 2; id <= 4; id++ {
		must(t, "Open", c.M.Open(id, 0))
	}
	for want, id := range []int{3, 1, 2} {
		refuse(t, c, id, 5, 8, false, 0, api.ErrArg)
		if _, ok := c.M.Tags.Tag(id); ok {
			t.Errorf("space %d has a tag", id)
		}
		refuse(t, c, id, 1<<40, 8, false, 4, api.ErrFault)
		if tag, ok := c.M.Tags.Tag(id); !ok || tag != want+1 {
			t.Errorf("tag of %d is %d", id, tag)
		}
	}
	refuse(t, c, 4, 0, 8, true, 6, api.ErrFault)
	if tag, ok := c.M.Tags.Tag(4); !ok || tag != 1 || c.M.Tags.Generation() != 1 {
		t.Errorf("tag of 4 is %d", tag)
	}
}

// P13.3: more spaces than tags: each new generation drops what was kept, and nobody sees another one's bytes.
func TestGenerations(t *testing.T) {
	for tags := 1; tags <= 4; tags++ {
		for _, keep := range []int{none, way0, way1} {
			m := machine(t, 80, tags)
			c := New(m, slices.Repeat([]int{keep}, 1000))
			for id := range 5 {
				must(t, "Open", m.Open(id, 0))
				must(t, "Map", m.Map(id, pages(0, 10), write))
			}
			for round := range uint64(6) {
				for id := range 5 {
					for _, page := range []uint64{0, 1, 8} {
						old := round * 100 * (1 + page) * uint64(id+1)
						load(t, c, id, page*4096, 8, old)
						wantFresh(t, m)
						store(t, c, id, page*4096, 8, (round+1)*100*(1+page)*uint64(id+1))
						wantFresh(t, m)
					}
				}
			}
			if want := tags < 5; m.Tags.Generation() > 0 != want {
				t.Errorf("%d tags: generation %d", tags, m.Tags.Generation())
			}
		}
	}
}
