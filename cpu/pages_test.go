package cpu

import (
	"slices"
	"testing"

	"demesne/api"
)

// keepings: lists of choices by which nothing is kept, all in one of the ways, and in turns, with places evicted between.
func keepings() [][]int {
	var mixed []int
	for i := range 300 {
		mixed = append(mixed, i*i*7-3*i)
	}
	return [][]int{nil, slices.Repeat([]int{way0}, 300), slices.Repeat([]int{way1}, 300), mixed}
}

// P13.1: loads and stores of pages without a region, and with regions of each use, with and without a frame.
func TestFaults(t *testing.T) {
	for _, keep := range []int{none, way0, way1} {
		c := single(t, slices.Repeat([]int{keep}, 100)...)
		must(t, "Unmap", c.M.Unmap(1, pages(0, 4)))
		for page, perm := range []api.Perm{{}, inner, read, write, exec, {Exec: true}, {Write: true, Exec: true}} {
			must(t, "Map", c.M.Map(1, pages(page, page+1), perm))
			addr := uint64(page)*4096 + 24
			if !perm.User {
				faults(t, c, 1, addr, 0)
				_, _, e := c.M.Touch(1, page, api.Access{})
				must(t, "Touch", e)
				faults(t, c, 1, addr, 1)
				continue
			}
			if !perm.Write {
				refuse(t, c, 1, addr, 8, true, 6, api.ErrFault)
				load(t, c, 1, addr, 8, 0)
				refuse(t, c, 1, addr, 8, true, 7, api.ErrFault)
				refuse(t, c, 1, addr, 8, true, 7, api.ErrFault)
				load(t, c, 1, addr, 8, 0)
				continue
			}
			store(t, c, 1, addr, 8, 5)
			load(t, c, 1, addr, 8, 5)
		}
		for _, addr := range []uint64{7 * 4096, 8*4096 - 8, 1 << 40, 1<<47 - 8} {
			faults(t, c, 1, addr, 0)
		}
		wantFresh(t, c.M)
	}
}

// P13.1: a fault is at the address itself, of whichever size.
func TestFaultAddr(t *testing.T) {
	c := single(t)
	must(t, "Protect", c.M.Protect(1, pages(1, 2), read))
	load(t, c, 1, 4096, 8, 0)
	for _, size := range []int{1, 2, 4, 8} {
		for _, addr := range []uint64{4096, 4096 + 8, 8192 - 8} {
			refuse(t, c, 1, addr, size, true, 7, api.ErrFault)
			refuse(t, c, 1, addr+4*4096, size, true, 6, api.ErrFault)
			refuse(t, c, 1, addr+4*4096, size, false, 4, api.ErrFault)
		}
		refuse(t, c, 1, 8192-uint64(size), size, true, 7, api.ErrFault)
	}
}

// P13.1: each error of a Touch for want of frames: nothing has changed, though a choice is used, and by a frame more it is done.
func TestTouchRefused(t *testing.T) {
	for _, keep := range keepings()[:3] {
		for room := range 5 {
			for _, writes := range []bool{false, true} {
				quotaShort(t, keep, room, writes)
				framesShort(t, keep, room, writes)
			}
		}
	}
}

// quotaShort: a space whose container has room for so many frames beside its root; the first page needs four.
func quotaShort(t *testing.T, keep []int, room int, writes bool) {
	t.Helper()
	m := machine(t, 60, 3)
	box, e := m.Tree.Child(0, 1+room)
	must(t, "Child", e)
	must(t, "Open", m.Open(1, box))
	must(t, "Map", m.Map(1, pages(0, 600), write))
	c := New(m, keep)
	if room < 4 {
		refuse(t, c, 1, 8, 8, writes, 0, api.ErrQuota)
		wantLeft(t, c, max(0, len(keep)-1))
		return
	}
	store(t, c, 1, 8, 8, 5)
	refuse(t, c, 1, 4096, 8, writes, 0, api.ErrQuota)
	refuse(t, c, 1, 512*4096, 8, writes, 0, api.ErrQuota)
	load(t, c, 1, 8, 8, 5)
	must(t, "Unmap", m.Unmap(1, pages(0, 1)))
	load(t, c, 1, 4096+8, 8, 0)
	wantFresh(t, m)
}

// framesShort: a machine on which so many frames are free, whatever containers may have.
func framesShort(t *testing.T, keep []int, room int, writes bool) {
	t.Helper()
	c := New(single(t).M, keep)
	for c.M.Free.Free() > room {
		_, e := c.M.Free.Take(0)
		must(t, "Take", e)
	}
	if room < 4 {
		refuse(t, c, 1, 8, 8, writes, 0, api.ErrNoMem)
		return
	}
	store(t, c, 1, 8, 8, 5)
	refuse(t, c, 1, 4096, 8, writes, 0, api.ErrNoMem)
	load(t, c, 1, 8, 8, 5)
	wantFresh(t, c.M)
}

// lent: a processor, with page 0 of space 1 lent to space 2 at page 9, to be used so; space 1 stored 5 there.
func lent(t *testing.T, keep []int, perm api.Perm) *CPU {
	t.Helper()
	c := New(single(t).M, keep)
	must(t, "Open", c.M.Open(2, 0))
	store(t, c, 1, 8, 8, 5)
	must(t, "Lend", c.M.Lend(1, 0, 2, 9, perm))
	return c
}

const at9 = 9*4096 + 8

// P13.1, P13.2: a page that is lent, by both, and behind Back.
func TestLent(t *testing.T) {
	for _, keep := range keepings() {
		c := lent(t, keep, write)
		load(t, c, 2, at9, 8, 5)
		store(t, c, 2, at9, 8, 6)
		load(t, c, 1, 8, 8, 6)
		store(t, c, 1, 8, 4, 7)
		load(t, c, 2, at9, 8, 7)
		wantFresh(t, c.M)
		must(t, "Back", c.M.Back(1, 0, 2, 9))
		wantFault(t, c, 2, at9, false, 4)
		wantFault(t, c, 2, at9, true, 6)
		load(t, c, 1, 8, 8, 7)
		store(t, c, 1, 8, 8, 8)
		must(t, "Map", c.M.Map(2, pages(9, 10), write))
		load(t, c, 2, at9, 8, 0)
		store(t, c, 2, at9, 8, 9)
		load(t, c, 1, 8, 8, 8)
		wantFresh(t, c.M)
	}
}

// wantFault: an access faults; the choice may be any.
func wantFault(t *testing.T, c *CPU, id int, addr uint64, writes bool, code int) {
	t.Helper()
	if v, f, e := c.Do(id, addr, 8, writes, 1); v != 0 || f != (api.Fault{Addr: addr, Code: code}) || e != api.ErrFault {
		t.Errorf("Do(%d, %#x): %d, %+v, %d; want code %d", id, addr, v, f, e, code)
	}
	wantFresh(t, c.M)
}

// P13.1: a page that is lent to be loaded from alone, or not to users.
func TestLentLess(t *testing.T) {
	for _, keep := range keepings() {
		c := lent(t, keep, read)
		load(t, c, 2, at9, 8, 5)
		wantFault(t, c, 2, at9, true, 7)
		store(t, c, 1, 8, 8, 6)
		load(t, c, 2, at9, 8, 6)
		c = lent(t, keep, inner)
		wantFault(t, c, 2, at9, true, 7)
		wantFault(t, c, 2, at9, false, 5)
		load(t, c, 1, 8, 8, 5)
	}
}

// P13.1, P13.2: a page that a space lends to itself.
func TestLentToItself(t *testing.T) {
	for _, keep := range keepings() {
		c := New(single(t).M, keep)
		store(t, c, 1, 8, 8, 5)
		must(t, "Lend", c.M.Lend(1, 0, 1, 9, write))
		load(t, c, 1, at9, 8, 5)
		store(t, c, 1, at9, 8, 6)
		load(t, c, 1, 8, 8, 6)
		must(t, "Back", c.M.Back(1, 0, 1, 9))
		wantFault(t, c, 1, at9, false, 4)
		load(t, c, 1, 8, 8, 6)
	}
}

// P13.2, P13.3: behind Unmap, and behind a Map of the same pages.
func TestUnmap(t *testing.T) {
	for _, keep := range keepings() {
		c := New(single(t).M, keep)
		for page := range uint64(4) {
			store(t, c, 1, page*4096, 8, page+5)
		}
		must(t, "Unmap", c.M.Unmap(1, pages(1, 3)))
		wantFresh(t, c.M)
		for _, page := range []uint64{1, 2} {
			wantFault(t, c, 1, page*4096, false, 4)
			wantFault(t, c, 1, page*4096, true, 6)
		}
		load(t, c, 1, 0, 8, 5)
		load(t, c, 1, 3*4096, 8, 8)
		must(t, "Open", c.M.Open(2, 0))
		must(t, "Map", c.M.Map(2, pages(0, 1), write))
		store(t, c, 2, 0, 8, 77) // in the frame that page 1 had
		must(t, "Map", c.M.Map(1, pages(1, 2), write))
		load(t, c, 1, 4096, 8, 0)
		store(t, c, 1, 4096, 8, 78)
		load(t, c, 2, 0, 8, 77)
		wantFresh(t, c.M)
	}
}

// P13.2, P13.3: behind Protect, to less and to more.
func TestProtect(t *testing.T) {
	for _, keep := range keepings() {
		c := New(single(t).M, keep)
		store(t, c, 1, 8, 8, 5)
		must(t, "Protect", c.M.Protect(1, pages(0, 2), read))
		wantFresh(t, c.M)
		wantFault(t, c, 1, 8, true, 7)
		wantFault(t, c, 1, 4096, true, 6)
		load(t, c, 1, 8, 8, 5)
		must(t, "Protect", c.M.Protect(1, pages(0, 1), inner))
		wantFault(t, c, 1, 8, false, 5)
		wantFault(t, c, 1, 8, true, 7)
		must(t, "Protect", c.M.Protect(1, pages(0, 1), write))
		load(t, c, 1, 8, 8, 5)
		store(t, c, 1, 8, 8, 6)
		store(t, c, 1, 8, 8, 7)
		load(t, c, 1, 8, 8, 7)
		wantFresh(t, c.M)
	}
}

// P13.2, P13.3: behind Close, and behind an Open of the same number.
func TestClose(t *testing.T) {
	for _, keep := range keepings() {
		c := New(single(t).M, keep)
		for page := range uint64(4) {
			store(t, c, 1, page*4096, 8, page+5)
		}
		must(t, "Close", c.M.Close(1))
		wantFresh(t, c.M)
		if _, f, e := c.Do(1, 0, 8, false, 0); f != (api.Fault{}) || e != api.ErrNone {
			t.Errorf("load of none: %+v, %d", f, e)
		}
		must(t, "Open", c.M.Open(1, 0))
		wantFault(t, c, 1, 0, false, 4)
		must(t, "Map", c.M.Map(1, pages(0, 4), write))
		for page := range uint64(4) {
			load(t, c, 1, page*4096, 8, 0)
		}
		wantFresh(t, c.M)
		must(t, "Close", c.M.Close(1))
		if n := c.M.Free.Free(); n != 57 {
			t.Errorf("%d frames are free", n)
		}
	}
}

// P13.3: lines go with the space that they are of, not with others.
func TestLinesOfOthersStay(t *testing.T) {
	m := machine(t, 60, 3)
	c := New(m, []int{way0, way1, way0, way1})
	for id := 1; id <= 2; id++ {
		must(t, "Open", m.Open(id, 0))
		must(t, "Map", m.Map(id, pages(0, 2), write))
		store(t, c, id, 0, 8, uint64(id))
	}
	second := line(t, m, 2, 0, write, true)
	must(t, "Unmap", m.Unmap(1, pages(0, 2)))
	wantLines(t, m, second)
	must(t, "Close", m.Close(1))
	wantLines(t, m, second)
	load(t, c, 2, 0, 8, 2)
	wantFault(t, c, 2, 2*4096, false, 4)
}

// P13.2: two processors of one machine, with choices of their own, see the same.
func TestTwoProcessors(t *testing.T) {
	m := single(t).M
	a, b := New(m, keepings()[1]), New(m, keepings()[3])
	for i := range uint64(40) {
		store(t, a, 1, i%4*4096+i*8, 8, i)
		load(t, b, 1, i%4*4096+i*8, 8, i)
		store(t, b, 1, i%4*4096+i*8, 8, 2*i)
		load(t, a, 1, i%4*4096+i*8, 8, 2*i)
		wantFresh(t, m)
	}
}

// P13.1: a processor without New, by the machine alone, has no choices.
func TestNoChoices(t *testing.T) {
	c := &CPU{M: single(t).M}
	wantLeft(t, c, 0)
	store(t, c, 1, 8, 8, 5)
	load(t, c, 1, 8, 8, 5)
	wantLines(t, c.M)
	wantLeft(t, c, 0)
}

// K7: a page whose entry was spoilt by hand: an access ends by an error, not by a panic.
func TestSpoilt(t *testing.T) {
	for _, entry := range []uint64{0x3c007, 0xfffff007} { // frames that aren't there
		c := single(t, way0)
		store(t, c, 1, 0, 8, 5)
		c.M.TLB.All(false)
		c.M.RAM.Store(entryAt(c.M, 0), 8, entry)
		for _, writes := range []bool{false, true} {
			if v, f, e := c.Do(1, 0, 8, writes, 5); v != 0 || f != (api.Fault{}) || e != api.ErrBus {
				t.Errorf("entry %#x: %d, %+v, %d", entry, v, f, e)
			}
		}
	}
}
