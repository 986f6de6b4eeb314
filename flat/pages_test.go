package flat

import (
	"math"
	"math/rand"
	"testing"

	"demesne/api"
	"demesne/call"
	"demesne/kernel"
	"demesne/region"
	"demesne/trap"
)

// P19.1: what pages cost that share all, some and none of their tables; when they go they cost it no more.
func TestCost(t *testing.T) {
	x := boot(t, 99, 2)
	steps := []struct {
		page uint64
		cost int
	}{
		{0, 4}, {1, 1}, {511, 1}, // the same table of level 1
		{512, 2}, {1023, 1}, {1024, 2}, // another one; the same of level 2
		{1<<18 - 1, 2}, {1 << 18, 3}, {1<<18 + 511, 1}, {1<<19 - 1, 2}, // another one of level 2; the same of level 3
		{1<<27 - 1, 3}, {1 << 27, 4}, {1<<27 + 1, 1}, // another one of level 3
		{api.TopPage - 1, 4}, {api.TopPage - 2, 1},
	}
	used := 1
	for _, s := range steps {
		x.fine(0, call.Map, s.page, 1, 1)
		x.wantUsed(0, used)
		x.fine(0, call.Store, s.page*page+8, 8, s.page)
		used += s.cost
		x.wantUsed(0, used)
		x.fine(s.page, call.Load, s.page*page+8, 8)
		x.fine(0, call.Store, s.page*page+16, 8, 1)
		x.wantUsed(0, used)
	}
	for i := len(steps) - 1; i >= 0; i-- {
		x.fine(0, call.Protect, steps[i].page, 1, 0)
		x.wantUsed(0, used)
		x.fine(0, call.Unmap, steps[i].page, 1)
		used -= steps[i].cost
		x.wantUsed(0, used)
	}
	x.wantUsed(0, 1)
	if p := x.m.procs[0]; len(p.leads) != 0 || len(p.ways) != 0 {
		t.Errorf("of pages that are gone %v, %v are kept", p.leads, p.ways)
	}
}

// P19.1: the tables go with the last page, whichever comes first.
func TestCostInAnotherOrder(t *testing.T) {
	x := boot(t, 99, 2)
	for _, at := range []uint64{0, 511, 512, 1 << 18, 1 << 27} {
		x.fine(0, call.Map, at, 1, 1)
		x.fine(0, call.Load, at*page, 1)
	}
	x.wantUsed(0, 1+4+1+2+3+4)
	for _, c := range []struct {
		page uint64
		used int
	}{{0, 14}, {1 << 18, 11}, {511, 9}, {512, 5}, {1 << 27, 1}} {
		x.fine(0, call.Unmap, c.page, 1)
		x.wantUsed(0, c.used)
	}
}

// P19.1: pages that were mapped cost nothing until they are used; then each costs what it does alone; Unmap of them all gives all back.
func TestMapCostsNothing(t *testing.T) {
	x := boot(t, 99, 2)
	x.fine(0, call.Map, 510, 1<<16, 1)
	x.wantUsed(0, 1)
	x.refused(api.ErrThere, call.Map, 0, 511, 1)
	x.fine(0, call.Load, 511*page, 8)
	x.wantUsed(0, 5)
	x.fine(0, call.Load, 512*page, 8)
	x.wantUsed(0, 7)
	x.fine(0, call.Protect, 510, 4, 2)
	x.wantUsed(0, 7)
	x.fine(0, call.Unmap, 513, 1)
	x.wantUsed(0, 7)
	x.fine(0, call.Unmap, 0, 1<<16)
	x.wantUsed(0, 1)
	x.fine(0, call.Load, (510+1<<16-1)*page, 8)
	x.fine(0, call.Unmap, 1<<16, 510)
	x.wantUsed(0, 1)
	if n := len(x.m.procs[0].regions); n != 0 {
		t.Errorf("%d regions", n)
	}
}

// P19.1: each error of Map, Unmap and Protect, in its order.
func TestPagesRefused(t *testing.T) {
	x := boot(t, 99, 2)
	for i := range uint64(api.MaxRegions) {
		x.fine(0, call.Map, 4*i, 3, 1)
	}
	x.refused(api.ErrThere, call.Map, 2, 1, 1)
	x.refused(api.ErrThere, call.Map, 3, 2, 1)
	x.refused(api.ErrBig, call.Map, 1000, 1, 1)
	x.refused(api.ErrBig, call.Unmap, 1, 1)
	x.refused(api.ErrBig, call.Protect, 1, 1, 0)
	x.refused(api.ErrNone, call.Protect, 2, 2, 0) // ahead of more than there may be
	x.refused(api.ErrNone, call.Protect, 1000, 1, 0)
	x.fine(0, call.Store, 1*page, 8, 5)
	x.fine(1, call.Spawn, 20)
	x.fine(0, call.Offer, 1, 1, 1)
	x.turnOf(1)
	x.fine(0, call.Accept, 0, 9)
	x.turnOf(0)
	x.refused(api.ErrBig, call.Unmap, 1, 1) // ahead of a page that is lent
	x.refused(api.ErrBig, call.Protect, 1, 1, 0)
	x.refused(api.ErrNone, call.Protect, 1, 3, 0)
	x.refused(api.ErrBusy, call.Unmap, 0, 3)
	x.refused(api.ErrBusy, call.Unmap, 1, 2)
	x.refused(api.ErrBusy, call.Protect, 0, 3, 0)
	x.fine(0, call.Unmap, 2, 1)
	x.fine(0, call.Unmap, 4, 1<<16)
	x.refused(api.ErrBusy, call.Unmap, 1, 1)
	x.refused(api.ErrBusy, call.Protect, 1, 1, 1)
	x.fine(0, call.Unmap, 0, 1)
	x.turnOf(1)
	x.refused(api.ErrBusy, call.Unmap, 9, 1)
	x.refused(api.ErrBusy, call.Unmap, 0, 10)
	x.refused(api.ErrBusy, call.Protect, 9, 1, 1)
	x.refused(api.ErrThere, call.Map, 9, 1, 1)
	x.fine(0, call.Unmap, 0, 9)
	x.fine(0, call.Unmap, 10, 9)
	x.fine(5, call.Load, 9*page, 8)
}

// P19.1: the pages of one process aren't another one's.
func TestPagesAreOnesOwn(t *testing.T) {
	x := boot(t, 99, 2)
	x.fine(1, call.Spawn, 20)
	x.fine(0, call.Map, 3, 1, 1)
	x.fine(0, call.Store, 3*page, 8, 5)
	x.turnOf(1)
	x.faults(3*page, 4, call.Load, 3*page, 8)
	x.fine(0, call.Map, 3, 1, 1)
	x.fine(0, call.Load, 3*page, 8)
	x.fine(0, call.Store, 3*page, 8, 6)
	x.turnOf(0)
	x.fine(5, call.Load, 3*page, 8)
}

// P19.1: a page that is unmapped and mapped again has zeros; one whose use is changed has what it had.
func TestZeros(t *testing.T) {
	x := boot(t, 99, 2)
	x.fine(0, call.Map, 0, 2, 1)
	x.fine(0, call.Load, 8, 8)
	x.fine(0, call.Store, 8, 8, 5)
	x.fine(0, call.Store, page+8, 8, 6)
	x.fine(0, call.Protect, 0, 1, 2)
	x.fine(5, call.Load, 8, 8)
	x.fine(0, call.Unmap, 0, 1)
	x.faults(8, 4, call.Load, 8, 8)
	x.fine(0, call.Map, 0, 1, 1)
	x.wantUsed(0, 5)
	x.fine(0, call.Load, 8, 8)
	x.wantUsed(0, 6)
	x.fine(6, call.Load, page+8, 8)
	if c := x.m.procs[0].leads[0]; *c != (content{}) {
		t.Error("it has bytes")
	}
}

// P19.1: numbers of each size, at the ends of pages and over them: a number that would be of two pages is no call's.
func TestEndOfAPage(t *testing.T) {
	x := boot(t, 99, 2)
	x.fine(0, call.Map, 0, 2, 1)
	x.fine(0, call.Store, page-8, 8, 0x1122334455667788)
	x.fine(0, call.Store, page, 8, 0x99aabbccddeeff00)
	x.fine(0x11223344, call.Load, page-4, 4)
	x.fine(0x1122, call.Load, page-2, 2)
	x.fine(0x11, call.Load, page-1, 1)
	x.fine(0, call.Load, page, 1)
	x.fine(0xff00, call.Load, page, 2)
	x.fine(0xddeeff00, call.Load, page, 4)
	for _, c := range []struct{ size, ahead uint64 }{{2, 1}, {4, 1}, {4, 2}, {4, 3}, {8, 1}, {8, 2}, {8, 4}, {8, 7}} {
		x.refused(api.ErrInval, call.Load, page-c.ahead, c.size)
		x.refused(api.ErrInval, call.Store, page-c.ahead, c.size, 1)
	}
	x.fine(0, call.Store, page-1, 1, 0xee)
	x.fine(0xee22334455667788, call.Load, page-8, 8)
	x.fine(0, call.Store, page-4, 2, 0xabcd)
	x.fine(0xee22abcd55667788, call.Load, page-8, 8)
	x.fine(0, call.Store, page-4, 4, 0)
	x.fine(0x55667788, call.Load, page-8, 8)
	x.fine(0x99aabbccddeeff00, call.Load, page, 8)
	last := uint64(api.TopPage*page - 8)
	x.faults(last, 6, call.Store, last, 8, 1)
	x.fine(0, call.Map, api.TopPage-1, 1, 1)
	x.fine(0, call.Store, last, 8, math.MaxUint64)
	x.fine(math.MaxUint64, call.Load, last, 8)
	x.refused(api.ErrInval, call.Load, last+8, 8)
}

// P19.1: a touch that the container can't pay leaves all as it was, and is no fault; one frame more is enough.
func TestTouchThatCantBePaid(t *testing.T) {
	for frames := uint64(1); frames <= 15; frames++ {
		x := boot(t, 99, 2)
		x.fine(1, call.Spawn, frames)
		x.turnOf(1)
		x.fine(0, call.Handler, 64)
		used := 1
		for _, c := range []struct {
			page uint64
			cost int
		}{{0, 4}, {1, 1}, {512, 2}, {1 << 18, 3}, {1 << 27, 4}} {
			x.fine(0, call.Map, c.page, 1, 1)
			if used+c.cost > int(frames) {
				x.refused(api.ErrQuota, call.Store, c.page*page, 8, 1)
				x.refused(api.ErrQuota, call.Load, c.page*page, 8)
				break
			}
			x.fine(0, call.Store, c.page*page, 8, 1)
			used += c.cost
			x.wantUsed(1, used)
		}
		x.wantUsed(1, used)
	}
}

// P19.1: what is lent to a child can't be used; when it ends it can.
func TestRoomIsLent(t *testing.T) {
	x := boot(t, 2+10, 2)
	x.fine(0, call.Map, 0, 8, 1)
	x.fine(0, call.Store, 0, 1, 1)
	x.fine(1, call.Spawn, 4)
	x.fine(0, call.Store, page, 1, 1)
	x.refused(api.ErrQuota, call.Store, 2*page, 1, 1)
	x.refused(api.ErrQuota, call.Spawn, 1)
	x.turnOf(1)
	x.fine(0, call.Exit)
	x.fine(0, call.Store, 2*page, 1, 1)
	x.refused(api.ErrQuota, call.Spawn, 4)
	x.fine(0, call.Unmap, 2, 1)
	x.fine(1, call.Spawn, 4)
}

// P19.1: the codes of faults, without an entry, with one, at it, and behind it.
func TestFaults(t *testing.T) {
	x := boot(t, 99, 2)
	x.fine(0, call.Move, 2, 99)
	x.faults(5*page, 4, call.Load, 5*page, 8)
	x.faults(5*page+1, 6, call.Store, 5*page+1, 1, 1)
	x.fine(0, call.Map, 5, 2, 0)
	x.faults(5*page, 6, call.Store, 5*page, 8, 1)
	x.wantUsed(0, 1)
	x.fine(0, call.Load, 5*page, 8)
	x.faults(5*page, 7, call.Store, 5*page, 8, 1)
	x.fine(0, call.Handler, 0x1000)
	regs := trap.Regs{0, 0, 99, 0}
	x.up(5*page+8, 7, call.Store, 5*page+8, 8, 1)
	there := trap.State{Regs: trap.Regs{5*page + 8, 7, 0, 0}, Entry: 0x1000, In: true, Fault: api.Fault{Addr: 5*page + 8, Code: 7}, Saved: regs}
	if s := x.m.procs[0].state; s != there {
		t.Errorf("at its entry: %+v", s)
	}
	x.faults(9*page, 4, call.Load, 9*page, 8)
	x.faults(6*page, 6, call.Store, 6*page, 8, 1)
	x.refused(api.ErrBusy, call.Handler, 0x2000)
	x.fine(0, call.Move, 3, 5)
	x.fine(0, call.Return)
	if s := x.m.procs[0].state; s != (trap.State{Regs: regs, Entry: 0x1000}) {
		t.Errorf("behind the return: %+v", s)
	}
	x.refused(api.ErrNone, call.Return)
	x.up(9*page, 4, call.Load, 9*page, 8)
	x.fine(0, call.Return)
	x.fine(0, call.Handler, 0)
	x.faults(9*page, 4, call.Load, 9*page, 8)
}

// P19.1: registers are the process's own.
func TestStates(t *testing.T) {
	x := boot(t, 99, 2)
	x.fine(0, call.Move, 0, math.Float64bits(6))
	x.fine(0, call.Move, 1, math.Float64bits(1.5))
	x.fine(1, call.Spawn, 20)
	x.turnOf(1)
	x.fine(0, call.Move, 3, math.MaxUint64)
	x.fine(0, call.Reckon, 3, 0, 0, 2)
	if s := x.m.procs[1].state; s != (trap.State{Regs: trap.Regs{2: 0x7ff8000000000000, 3: math.MaxUint64}, Told: 1}) {
		t.Errorf("process 1: %+v", s)
	}
	x.turnOf(0)
	for op, want := range []float64{7.5, 4.5, 9, 4, 1.5, 6, -6, 6} {
		x.fine(0, call.Reckon, uint64(op), 0, 1, 2)
		if got := x.m.procs[0].state.Regs[2]; got != math.Float64bits(want) {
			t.Errorf("operation %d: %v; want %v", op+1, math.Float64frombits(got), want)
		}
	}
	for pid := range 2 {
		kernels, _ := x.k.Get(pid)
		if s := x.m.procs[pid].state; s != kernels.State {
			t.Errorf("process %d: %+v; the kernel's %+v", pid, s, kernels.State)
		}
	}
}

// P19.1, P2: words that are no call's change nothing, and are told to whose turn it is.
func TestNoCall(t *testing.T) {
	x := boot(t, 99, 3)
	x.fine(0, call.Map, 0, 4, 1)
	x.fine(0, call.Store, 8, 8, 5)
	x.fine(0, call.Handler, 64)
	x.fine(1, call.Spawn, 20)
	x.fine(0, call.Offer, 0, 1, 1)
	x.fine(0, call.Yield)
	x.tick(false)
	for _, w := range [][]uint64{
		{}, {17}, {math.MaxUint64}, {1 << 32}, {call.Map}, {call.Map, 0, 0, 1}, {call.Map, 0, 1<<16 + 1, 1}, {call.Map, api.TopPage, 1, 1}, {call.Map, 0, 1, 4},
		{call.Unmap, 0, 1, 1}, {call.Protect, api.TopPage - 1, 2, 0}, {call.Load, 0, 3}, {call.Load, 0, 8, 1}, {call.Store, 8, 4, 1 << 32}, {call.Load, 1 << 47, 8},
		{call.Offer, 0, 16, 0}, {call.Offer, 0, 0, 2}, {call.Accept, 256, 0}, {call.Accept, 0, api.TopPage}, {call.Revoke, 256}, {call.Leave, 0, 1}, {call.Handler, 1 << 47},
		{call.Return, 1}, {call.Spawn, 1<<20 + 1}, {call.Exit, 0, 0, 0, 0, 1}, {call.Yield, 1}, {call.Reckon, 8, 0, 0, 0}, {call.Reckon, 0, 4, 0, 0}, {call.Move, 4, 0},
	} {
		x.refused(api.ErrInval, w...)
	}
	rnd, many := rand.New(rand.NewSource(1)), 0
	for range 2000 {
		w := call.Words{uint64(rnd.Intn(20)), rnd.Uint64() >> rnd.Intn(64), uint64(rnd.Intn(9)), rnd.Uint64() >> rnd.Intn(64), uint64(rnd.Intn(2)), uint64(rnd.Intn(2))}
		if _, e := call.Read(w); e != api.OK {
			many++
			x.refused(api.ErrInval, w[:]...)
		}
	}
	if many < 700 {
		t.Errorf("%d times only", many)
	}
}

// P19.1: of pages that may be fetched from, and that may be written.
func TestPerm(t *testing.T) {
	x := boot(t, 99, 2)
	for perm := range uint64(4) {
		at := 3 * perm
		x.fine(0, call.Map, at, 1, perm)
		want := region.Region{Pages: single(int(at)), Perm: api.Perm{Write: perm&1 > 0, User: true, Exec: perm&2 > 0}}
		if r, ok := region.Find(x.m.procs[0].regions, int(at)); !ok || r != want {
			t.Errorf("page %d: %+v", at, r)
		}
		x.fine(0, call.Load, at*page, 8)
		if perm&1 > 0 {
			x.fine(0, call.Store, at*page, 8, 1)
		} else {
			x.faults(at*page, 7, call.Store, at*page, 8, 1)
		}
		x.fine(0, call.Protect, at, 1, 3-perm)
		if perm&1 > 0 {
			x.faults(at*page, 7, call.Store, at*page, 8, 2)
		} else {
			x.fine(0, call.Store, at*page, 8, 2)
		}
	}
	if r := x.m.Do(call.Words{call.Load, 3 * page, 8}); r != (kernel.Result{X: 1}) {
		t.Errorf("%+v", r)
	}
}
