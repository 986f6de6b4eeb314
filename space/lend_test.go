package space

import (
	"fmt"
	"math"
	"testing"

	"demesne/api"
)

// lenders: space 1 with pages 0 to 7 of each use (write first), of which 0 to 3 lead somewhere; spaces 2 and 3 without pages, in containers of their own.
func lenders(t *testing.T, frames, may int) (m *Machine, box int) {
	t.Helper()
	m = boot(t, frames)
	box = child(t, m, may)
	must(t, "Open", m.Open(1, 0))
	must(t, "Open", m.Open(2, box))
	must(t, "Open", m.Open(3, 0))
	for i, perm := range []api.Perm{write, read, exec, whole} {
		must(t, "Map", m.Map(1, pages(i, i+1), perm))
		must(t, "Map", m.Map(1, pages(i+4, i+5), perm))
		touch(t, m, 1, i, loads)
	}
	return m, box
}

// P12.1: a page is lent as far as it may be used itself, and leads to the same frame; nobody more is charged for that.
func TestLend(t *testing.T) {
	for i, own := range []api.Perm{write, read, exec, whole} {
		for _, perm := range perms() {
			m, box := lenders(t, 40, 4)
			if perm.Write && !own.Write || perm.Exec && !own.Exec {
				refuse(t, m, fmt.Sprint("Lend ", perm), api.ErrPerm, func() api.Errno { return m.Lend(1, i, 2, 9, perm) })
				continue
			}
			used, _ := m.Tree.Get(0)
			must(t, "Lend", m.Lend(1, i, 2, 9, perm))
			wantUsed(t, m, 0, used.Used)
			wantUsed(t, m, box, 1+3)
			wantPages(t, m, 2, 9)
			wantQuery(t, m, 2, 9, perm)
			frame := touch(t, m, 1, i, loads)
			for _, a := range accesses() {
				if a.Write && !perm.Write || a.User && !perm.User || a.Fetch && !perm.Exec {
					wantTouch(t, m, 2, 9, a, codeOf(a)+1, api.ErrFault)
				} else if got := touch(t, m, 2, 9, a); got != frame {
					t.Errorf("lent: frame %d; want %d", got, frame)
				}
			}
			must(t, "Back", m.Back(1, i, 2, 9))
			wantUsed(t, m, box, 1)
			wantPages(t, m, 2)
			wantRegions(t, m, 2, "")
		}
	}
}

// P12.1: each error of Lend and of Lendable, in its order.
func TestLendErrors(t *testing.T) {
	m, _ := lenders(t, 60, 10)
	must(t, "Map", m.Map(2, pages(0, 3), whole))
	must(t, "Lend", m.Lend(1, 0, 2, 5, write))
	for _, c := range []struct {
		id, page, to, at int
		perm             api.Perm
		want             api.Errno
	}{
		{1, 4, 2, 9, read, api.ErrNone}, // it leads nowhere
		{1, 4, 2, -1, read, api.ErrNone},
		{1, 8, 2, 9, read, api.ErrNone}, // no region
		{1, -1, 2, 9, read, api.ErrNone},
		{1, top, 2, 9, read, api.ErrNone},
		{1, math.MinInt, 2, 9, read, api.ErrNone},
		{1, math.MaxInt, 2, 9, read, api.ErrNone},
		{2, 5, 3, 9, read, api.ErrNone}, // borrowed
		{2, 5, 2, -1, whole, api.ErrNone},
		{2, 1, 3, 9, read, api.ErrNone},  // it leads nowhere
		{1, 0, 2, 1, whole, api.ErrPerm}, // no Exec
		{1, 0, 2, -1, exec, api.ErrPerm},
		{1, 1, 2, 1, write, api.ErrPerm}, // no Write
		{1, 1, 2, 1, api.Perm{Write: true}, api.ErrPerm},
		{1, 2, 2, top, write, api.ErrPerm},
		{1, 0, 2, -1, write, api.ErrArg},
		{1, 0, 2, top, write, api.ErrArg},
		{1, 0, 2, math.MinInt, write, api.ErrArg},
		{1, 0, 2, math.MaxInt, write, api.ErrArg},
		{1, 0, 2, 2, write, api.ErrThere},
		{1, 0, 2, 5, write, api.ErrThere},
		{1, 0, 1, 0, write, api.ErrThere},
		{1, 0, 1, 7, write, api.ErrThere},
	} {
		refuse(t, m, fmt.Sprint("Lend ", c), c.want, func() api.Errno { return m.Lend(c.id, c.page, c.to, c.at, c.perm) })
	}
	for _, c := range []struct {
		id, page int
		write    bool
		want     api.Errno
	}{
		{1, 0, true, api.OK}, {1, 0, false, api.OK}, {1, 1, false, api.OK}, {1, 1, true, api.ErrPerm},
		{1, 2, false, api.OK}, {1, 2, true, api.ErrPerm}, {1, 3, true, api.OK},
		{1, 4, true, api.ErrNone}, {1, 4, false, api.ErrNone}, {1, 5, true, api.ErrNone}, {1, 8, false, api.ErrNone},
		{2, 5, false, api.ErrNone}, {2, 5, true, api.ErrNone}, {2, 1, false, api.ErrNone},
		{1, -1, false, api.ErrNone}, {1, top, true, api.ErrNone}, {1, math.MinInt, true, api.ErrNone}, {1, math.MaxInt, true, api.ErrNone},
	} {
		refuse(t, m, fmt.Sprint("Lendable ", c), c.want, func() api.Errno { return m.Lendable(c.id, c.page, c.write) })
	}
}

// P12.1: a Lend for which there isn't room in to: in its regions, in its container, in the Buddy.
func TestLendNoRoom(t *testing.T) {
	for may := 1; may <= 4; may++ {
		m, box := lenders(t, 40, may)
		soil(m)
		if may < 4 {
			refuse(t, m, "Lend", api.ErrQuota, func() api.Errno { return m.Lend(1, 0, 2, 9, write) })
			must(t, "Unmap", m.Unmap(1, pages(0, 8)))
			continue
		}
		must(t, "Lend", m.Lend(1, 0, 2, 9, write))
		must(t, "Lend", m.Lend(1, 0, 2, 511, write))
		refuse(t, m, "Lend", api.ErrQuota, func() api.Errno { return m.Lend(1, 0, 2, 512, write) })
		wantUsed(t, m, box, 4)
	}
	m, _ := lenders(t, 60, 30)
	crowd(t, m, 2, 0, 64)
	refuse(t, m, "Lend", api.ErrBig, func() api.Errno { return m.Lend(1, 0, 2, 1, write) })
	for m.Free.Free() > 2 {
		m.Free.Take(0)
	}
	refuse(t, m, "Lend", api.ErrNoMem, func() api.Errno { return m.Lend(1, 0, 3, 1, write) })
}

// P12.1: a page that is lent to several, and back one by one; as long as it is lent, it is busy.
func TestLendSeveral(t *testing.T) {
	m, box := lenders(t, 60, 30)
	must(t, "Lend", m.Lend(1, 0, 2, 9, write))
	must(t, "Lend", m.Lend(1, 0, 3, 9, read))
	must(t, "Lend", m.Lend(1, 0, 2, 10, write)) // the same one, once more
	must(t, "Lend", m.Lend(1, 1, 2, 11, read))
	wantRegions(t, m, 2, "9-11wu! 11-12u! ")
	wantUsed(t, m, box, 4)
	frame := touch(t, m, 1, 0, stores)
	m.RAM.Store(uint64(frame)*4096+16, 8, 77)
	for _, at := range []struct{ id, page int }{{2, 9}, {2, 10}, {3, 9}} {
		if got := touch(t, m, at.id, at.page, loads); got != frame {
			t.Errorf("page %d of %d: frame %d; want %d", at.page, at.id, got, frame)
		}
	}
	for i, back := range []struct{ to, at int }{{2, 9}, {3, 9}, {2, 10}} {
		refuse(t, m, "Unmap", api.ErrBusy, func() api.Errno { return m.Unmap(1, pages(0, 1)) })
		refuse(t, m, "Protect", api.ErrBusy, func() api.Errno { return m.Protect(1, pages(0, 1), read) })
		refuse(t, m, "Close", api.ErrBusy, func() api.Errno { return m.Close(1) })
		must(t, "Back", m.Back(1, 0, back.to, back.at))
		refuse(t, m, fmt.Sprint("Back again, ", i), api.ErrNone, func() api.Errno { return m.Back(1, 0, back.to, back.at) })
		wantTouch(t, m, back.to, back.at, loads, 4, api.ErrFault)
	}
	if x, _ := m.RAM.Load(uint64(frame)*4096+16, 8); x != 77 || touch(t, m, 1, 0, loads) != frame {
		t.Error("what was lent has changed")
	}
	wantRegions(t, m, 2, "11-12u! ")
	must(t, "Close", m.Close(3))
	must(t, "Protect", m.Protect(1, pages(0, 1), read))
	must(t, "Unmap", m.Unmap(1, pages(0, 1)))
	refuse(t, m, "Close", api.ErrBusy, func() api.Errno { return m.Close(1) })
	must(t, "Back", m.Back(1, 1, 2, 11))
	must(t, "Close", m.Close(1))
	must(t, "Close", m.Close(2))
	wantUsed(t, m, 0, 2)
	wantUsed(t, m, box, 0)
}

// P12.1: each way in which Back has nothing to give back.
func TestBackErrors(t *testing.T) {
	m, _ := lenders(t, 60, 30)
	must(t, "Map", m.Map(2, pages(0, 3), whole))
	touch(t, m, 2, 0, stores)
	must(t, "Lend", m.Lend(1, 0, 2, 9, write))
	must(t, "Lend", m.Lend(1, 1, 2, 10, read))
	must(t, "Lend", m.Lend(2, 0, 1, 20, read))
	for _, c := range []struct{ id, page, to, at int }{
		{1, 2, 2, 9},  // not lent
		{1, 4, 2, 9},  // leads nowhere
		{1, 8, 2, 9},  // no region
		{1, 20, 2, 0}, // borrowed
		{1, 0, 2, 0},  // not Borrowed
		{1, 0, 2, 1},  // leads nowhere
		{1, 0, 2, 3},  // no region
		{1, 0, 2, 10}, // another frame
		{1, 1, 2, 9},
		{1, 0, 1, 20},
		{2, 0, 2, 9},
		{1, 0, 3, 9}, // another space
		{1, 0, 1, 0}, // its own page
		{2, 9, 1, 0}, // the other way round
	} {
		refuse(t, m, fmt.Sprint("Back ", c), api.ErrNone, func() api.Errno { return m.Back(c.id, c.page, c.to, c.at) })
	}
	for _, page := range odd {
		refuse(t, m, "Back", api.ErrNone, func() api.Errno { return m.Back(1, page, 2, 9) })
		refuse(t, m, "Back", api.ErrNone, func() api.Errno { return m.Back(1, 0, 2, page) })
	}
	must(t, "Back", m.Back(1, 0, 2, 9))
	must(t, "Back", m.Back(2, 0, 1, 20))
	must(t, "Back", m.Back(1, 1, 2, 10))
}

// P12.1: a space may lend a page to itself; then both pages are busy.
func TestLendToItself(t *testing.T) {
	m, _ := lenders(t, 40, 1)
	must(t, "Lend", m.Lend(1, 0, 1, 9, read))
	if a, b := touch(t, m, 1, 0, loads), touch(t, m, 1, 9, loads); a != b {
		t.Errorf("frames %d and %d", a, b)
	}
	for _, p := range []api.Range{pages(0, 1), pages(9, 10)} {
		refuse(t, m, "Unmap", api.ErrBusy, func() api.Errno { return m.Unmap(1, p) })
	}
	refuse(t, m, "Close", api.ErrBusy, func() api.Errno { return m.Close(1) })
	must(t, "Back", m.Back(1, 0, 1, 9))
	wantPages(t, m, 1, 0, 1, 2, 3)
	must(t, "Close", m.Close(1))
	must(t, "Close", m.Close(2))
	must(t, "Close", m.Close(3))
	wantUsed(t, m, 0, 2)
}

// P12.1: Back isn't refused where it leaves one region more than a list can have; what asks region for more is, until there are fewer.
func TestBackLeavesMany(t *testing.T) {
	m, _ := lenders(t, 60, 30)
	for at := range 3 {
		must(t, "Lend", m.Lend(1, at, 2, 10+at, read))
	}
	crowd(t, m, 2, 100, 63)
	must(t, "Back", m.Back(1, 1, 2, 11))
	l := m.Regions(2)
	if len(l) != 65 || l[0].Pages != pages(10, 11) || l[1].Pages != pages(12, 13) || l[2].Pages != pages(100, 101) || l[64].Pages != pages(224, 225) {
		t.Errorf("Regions(2) = %v", l)
	}
	wantPages(t, m, 2, 10, 12)
	wantTouch(t, m, 2, 11, loads, 4, api.ErrFault)
	touch(t, m, 2, 224, stores)
	must(t, "Unmap", m.Unmap(1, pages(1, 2)))
	for _, f := range []func() api.Errno{
		func() api.Errno { return m.Map(2, pages(11, 12), read) },
		func() api.Errno { return m.Unmap(2, pages(100, 101)) },
		func() api.Errno { return m.Protect(2, pages(100, 101), read) },
		func() api.Errno { return m.Lend(1, 0, 2, 11, read) },
	} {
		refuse(t, m, "of 65 regions", api.ErrForm, f)
	}
	must(t, "Back", m.Back(1, 2, 2, 12))
	must(t, "Unmap", m.Unmap(2, pages(100, 101)))
	must(t, "Back", m.Back(1, 0, 2, 10))
	must(t, "Close", m.Close(2))
}
