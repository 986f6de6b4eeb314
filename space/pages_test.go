package space

import (
	"fmt"
	"math"
	"testing"

	"demesne/api"
	"demesne/table"
	"demesne/walk"
)

// wrong: ranges of pages that aren't right.
var wrong = []api.Range{{}, {From: 4, To: 4}, {From: 5, To: 4}, {From: -1, To: 4}, {From: top - 1, To: top + 1}, {From: 0, To: 1<<16 + 1}, {From: math.MinInt, To: math.MaxInt}, {From: math.MaxInt, To: math.MinInt}, {From: 0, To: math.MaxInt}, {From: math.MinInt, To: 1}}

// crowd: a space has so many regions more, of one page each, from a page on, with one page between them.
func crowd(t *testing.T, m *Machine, id, from, regions int) {
	t.Helper()
	for i := range regions {
		must(t, "Map", m.Map(id, pages(from+2*i, from+2*i+1), write))
	}
}

// P12.1: Map, and each of its errors in its order; no page leads anywhere.
func TestMap(t *testing.T) {
	m := boot(t, 40)
	must(t, "Open", m.Open(1, 0))
	must(t, "Map", m.Map(1, pages(4, 8), write))
	must(t, "Map", m.Map(1, pages(8, 9), write))
	must(t, "Map", m.Map(1, pages(9, 10), exec))
	must(t, "Map", m.Map(1, pages(0, 1), api.Perm{}))
	must(t, "Map", m.Map(1, pages(top-1<<16, top), read))
	wantRegions(t, m, 1, fmt.Sprintf("0-1 4-9wu 9-10ux %d-%du ", top-1<<16, top))
	wantPages(t, m, 1)
	wantUsed(t, m, 0, 3)
	for _, p := range wrong {
		refuse(t, m, fmt.Sprint("Map of ", p), api.ErrArg, func() api.Errno { return m.Map(1, p, read) })
	}
	for _, p := range []api.Range{pages(0, 1), pages(1, 5), pages(8, 9), pages(9, 12), pages(0, 100)} {
		refuse(t, m, fmt.Sprint("Map of ", p), api.ErrThere, func() api.Errno { return m.Map(1, p, read) })
	}
	crowd(t, m, 1, 100, 60)
	refuse(t, m, "Map of a region too many", api.ErrBig, func() api.Errno { return m.Map(1, pages(50, 51), read) })
	refuse(t, m, "Map of a page that is there", api.ErrThere, func() api.Errno { return m.Map(1, pages(8, 51), read) })
	must(t, "Map", m.Map(1, pages(101, 102), write))
}

// P12.1: Unmap, and each of its errors in its order; of pages that led somewhere, that led nowhere, and that aren't its.
func TestUnmap(t *testing.T) {
	m := boot(t, 40)
	must(t, "Open", m.Open(1, 0))
	must(t, "Open", m.Open(2, 0))
	must(t, "Unmap", m.Unmap(1, pages(0, 1<<16)))
	must(t, "Map", m.Map(1, pages(0, 8), write))
	must(t, "Map", m.Map(1, pages(513, 515), write))
	for _, page := range []int{1, 2, 4, 514} {
		touch(t, m, 1, page, stores)
	}
	wantUsed(t, m, 0, 4+4+4)
	for _, p := range wrong {
		refuse(t, m, fmt.Sprint("Unmap of ", p), api.ErrArg, func() api.Errno { return m.Unmap(1, p) })
	}
	must(t, "Unmap", m.Unmap(1, pages(2, 4)))
	wantRegions(t, m, 1, "0-2wu 4-8wu 513-515wu ")
	wantPages(t, m, 1, 1, 4, 514)
	wantUsed(t, m, 0, 4+4+3)
	wantTouch(t, m, 1, 2, stores, 6, api.ErrFault)
	must(t, "Lend", m.Lend(1, 4, 2, 9, read))
	for _, p := range []api.Range{pages(4, 5), pages(0, 5), pages(4, 600), pages(0, 1<<16)} {
		refuse(t, m, fmt.Sprint("Unmap of ", p), api.ErrBusy, func() api.Errno { return m.Unmap(1, p) })
	}
	for _, p := range []api.Range{pages(9, 10), pages(0, 10), pages(9, 20)} {
		refuse(t, m, fmt.Sprint("Unmap of ", p), api.ErrBusy, func() api.Errno { return m.Unmap(2, p) })
	}
	must(t, "Unmap", m.Unmap(2, pages(0, 9)))
	must(t, "Unmap", m.Unmap(2, pages(10, 20)))
	must(t, "Unmap", m.Unmap(1, pages(5, 1<<16)))
	wantRegions(t, m, 1, "0-2wu 4-5wu ")
	wantPages(t, m, 1, 1, 4)
	must(t, "Back", m.Back(1, 4, 2, 9))
	must(t, "Unmap", m.Unmap(1, pages(0, 10)))
	wantRegions(t, m, 1, "")
	wantPages(t, m, 1)
	wantUsed(t, m, 0, 4)
}

// P12.1: Unmap that would leave too many regions: ErrBig, also of a page that is busy.
func TestUnmapTooMany(t *testing.T) {
	m := boot(t, 40)
	must(t, "Open", m.Open(1, 0))
	must(t, "Open", m.Open(2, 0))
	must(t, "Map", m.Map(1, pages(0, 3), write))
	crowd(t, m, 1, 100, 63)
	touch(t, m, 1, 1, stores)
	must(t, "Lend", m.Lend(1, 1, 2, 1, read))
	for _, f := range []func() api.Errno{
		func() api.Errno { return m.Unmap(1, pages(1, 2)) },
		func() api.Errno { return m.Protect(1, pages(1, 2), read) },
	} {
		refuse(t, m, "a region too many", api.ErrBig, f)
	}
	refuse(t, m, "Unmap", api.ErrBusy, func() api.Errno { return m.Unmap(1, pages(1, 3)) })
}

// P12.1: Protect, and each of its errors in its order; of pages that lead somewhere, and nowhere.
func TestProtect(t *testing.T) {
	m := boot(t, 40)
	must(t, "Open", m.Open(1, 0))
	must(t, "Open", m.Open(2, 0))
	must(t, "Map", m.Map(1, pages(0, 8), write))
	frame := touch(t, m, 1, 2, stores)
	touch(t, m, 1, 4, stores)
	for _, p := range wrong {
		refuse(t, m, fmt.Sprint("Protect of ", p), api.ErrArg, func() api.Errno { return m.Protect(1, p, read) })
	}
	for _, p := range []api.Range{pages(8, 9), pages(7, 9), pages(0, 1<<16)} {
		refuse(t, m, fmt.Sprint("Protect of ", p), api.ErrNone, func() api.Errno { return m.Protect(1, p, read) })
	}
	must(t, "Protect", m.Protect(1, pages(1, 4), read))
	wantRegions(t, m, 1, "0-1wu 1-4u 4-8wu ")
	wantPages(t, m, 1, 2, 4)
	wantTouch(t, m, 1, 2, stores, 7, api.ErrFault)
	wantTouch(t, m, 1, 1, stores, 6, api.ErrFault)
	if got := touch(t, m, 1, 2, loads); got != frame {
		t.Errorf("page 2 leads to %d; want %d", got, frame)
	}
	wantQuery(t, m, 1, 2, read)
	wantQuery(t, m, 1, 4, write)
	must(t, "Protect", m.Protect(1, pages(0, 8), whole))
	wantRegions(t, m, 1, "0-8wux ")
	wantQuery(t, m, 1, 2, whole)
	wantUsed(t, m, 0, 4+5)
	must(t, "Lend", m.Lend(1, 4, 2, 6, whole))
	for _, c := range []struct {
		id int
		p  api.Range
	}{{1, pages(4, 5)}, {1, pages(0, 8)}, {2, pages(6, 7)}} {
		refuse(t, m, "Protect", api.ErrBusy, func() api.Errno { return m.Protect(c.id, c.p, whole) })
	}
	refuse(t, m, "Protect", api.ErrNone, func() api.Errno { return m.Protect(1, pages(4, 9), whole) })
	must(t, "Protect", m.Protect(1, pages(0, 4), read))
	must(t, "Protect", m.Protect(1, pages(5, 8), read))
}

// wantQuery: how a page may be used, as the tables have it.
func wantQuery(t *testing.T, m *Machine, id, page int, want api.Perm) {
	t.Helper()
	root, _ := m.Root(id)
	purse := table.Purse{RAM: m.RAM, Free: m.Free, Tree: m.Tree}
	if _, perm, ok := table.Query(purse, root, page); perm != want || !ok {
		t.Errorf("page %d of %d: %+v, %v; want %+v", page, id, perm, ok, want)
	}
	for _, a := range accesses() {
		_, _, e := walk.Walk(m.RAM, root, uint64(page)*4096, a)
		if (e == api.OK) != walk.May(want, a) {
			t.Errorf("a walk for %+v: %d", a, e)
		}
	}
}

// accesses: all eight.
func accesses() []api.Access {
	var all []api.Access
	for i := range 8 {
		all = append(all, api.Access{Write: i&1 != 0, User: i&2 != 0, Fetch: i&4 != 0})
	}
	return all
}

// codeOf: what a fault's code says of an access.
func codeOf(a api.Access) int {
	c := 0
	for i, flag := range []bool{a.Write, a.User, a.Fetch} {
		if flag {
			c += []int{2, 4, 16}[i]
		}
	}
	return c
}

// perms: all eight.
func perms() []api.Perm {
	var all []api.Perm
	for i := range 8 {
		all = append(all, api.Perm{Write: i&1 != 0, User: i&2 != 0, Exec: i&4 != 0})
	}
	return all
}

// P12.1: each access to pages of each use: without a region, without a frame, with one.
func TestTouchCodes(t *testing.T) {
	for _, perm := range perms() {
		m := boot(t, 40)
		must(t, "Open", m.Open(1, 0))
		must(t, "Map", m.Map(1, pages(0, 20), perm))
		frame := touch(t, m, 1, 0, api.Access{})
		page := 1
		for _, a := range accesses() {
			code := codeOf(a)
			for _, none := range append([]int{20, top - 1}, odd...) {
				wantTouch(t, m, 1, none, a, code, api.ErrFault)
			}
			if !walk.May(perm, a) {
				wantTouch(t, m, 1, 0, a, code+1, api.ErrFault)
				wantTouch(t, m, 1, page, a, code, api.ErrFault)
				continue
			}
			if got := touch(t, m, 1, 0, a); got != frame {
				t.Errorf("page 0 leads to %d; want %d", got, frame)
			}
			more := touch(t, m, 1, page, a)
			if again := touch(t, m, 1, page, a); again != more || more == frame {
				t.Errorf("page %d leads to %d, then to %d", page, more, again)
			}
			wantQuery(t, m, 1, page, perm)
			page++
		}
	}
}

// P12.1: a Touch that is refused behind nothing, behind the frame, behind the first, second and third table, by the quota; then all is as it was.
func TestTouchRefused(t *testing.T) {
	for may := 1; may <= 5; may++ {
		m := boot(t, 40)
		box := child(t, m, may)
		must(t, "Open", m.Open(1, box))
		must(t, "Map", m.Map(1, pages(0, 4), write))
		soil(m)
		if may < 5 {
			wantTouch(t, m, 1, 2, stores, 0, api.ErrQuota)
			wantUsed(t, m, box, 1)
			wantPages(t, m, 1)
			must(t, "Close", m.Close(1))
			continue
		}
		frame := touch(t, m, 1, 2, stores)
		wantUsed(t, m, box, 5)
		if !m.RAM.Clear(frame) {
			t.Error("the frame isn't of zeros")
		}
		wantTouch(t, m, 1, 3, stores, 0, api.ErrQuota)
		if got := touch(t, m, 1, 2, loads); got != frame {
			t.Errorf("page 2 leads to %d; want %d", got, frame)
		}
	}
}

// P12.1: likewise, when the Buddy has too few frames, though the container may have more.
func TestTouchNoFrame(t *testing.T) {
	for left := range 5 {
		m := boot(t, 40)
		must(t, "Open", m.Open(1, 0))
		must(t, "Map", m.Map(1, pages(0, 4), write))
		soil(m)
		for m.Free.Free() > left {
			m.Free.Take(0)
		}
		if left < 4 {
			wantTouch(t, m, 1, 2, stores, 0, api.ErrNoMem)
			wantUsed(t, m, 0, 3)
			continue
		}
		touch(t, m, 1, 2, stores)
		wantUsed(t, m, 0, 7)
		wantTouch(t, m, 1, 3, stores, 0, api.ErrNoMem)
	}
}

// P12.1, P12.2: a frame that comes is of zeros, whoever had it, and isn't another page's.
func TestTouchZeros(t *testing.T) {
	m := boot(t, 24)
	soil(m)
	for round := range 5 {
		must(t, "Open", m.Open(round, 0))
		must(t, "Map", m.Map(round, pages(0, 17), write))
		seen := map[int]int{}
		for page := range 17 {
			frame := touch(t, m, round, page, stores)
			if !m.RAM.Clear(frame) || seen[frame] != 0 {
				t.Errorf("page %d leads to frame %d: %d", page, frame, seen[frame])
			}
			seen[frame]++
			for place := range 512 {
				m.RAM.Store(uint64(frame)*4096+uint64(place)*8, 8, math.MaxUint64)
			}
		}
		if m.Free.Free() != 0 {
			t.Errorf("%d are free", m.Free.Free())
		}
		must(t, "Close", m.Close(round))
	}
}

// P12.2: tables are had once for all pages that they lead to, and given back with the last of these.
func TestTables(t *testing.T) {
	m := boot(t, 60)
	must(t, "Open", m.Open(1, 0))
	free := freeOf(m)
	used := 3
	for _, c := range []struct{ page, frames int }{{0, 4}, {511, 1}, {512, 2}, {1 << 18, 3}, {1 << 27, 4}, {1<<27 + 1, 1}, {top - 1, 4}, {top - 2, 1}} {
		must(t, "Map", m.Map(1, pages(c.page, c.page+1), write))
		touch(t, m, 1, c.page, stores)
		used += c.frames
		wantUsed(t, m, 0, used)
	}
	wantPages(t, m, 1, 0, 511, 512, 1<<18, 1<<27, 1<<27+1, top-2, top-1)
	must(t, "Unmap", m.Unmap(1, pages(0, 1<<16)))
	wantUsed(t, m, 0, used-6)
	for _, page := range []int{1 << 18, 1 << 27, 1<<27 + 1, top - 1, top - 2} {
		must(t, "Unmap", m.Unmap(1, pages(page, page+1)))
	}
	wantUsed(t, m, 0, 3)
	if freeOf(m) != free {
		t.Errorf("free: %s; want %s", freeOf(m), free)
	}
}
