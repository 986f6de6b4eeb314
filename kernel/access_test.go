package kernel

import (
	"math"
	"math/rand"
	"slices"
	"testing"

	"demesne/api"
	"demesne/call"
	"demesne/region"
	"demesne/trap"
)

// up: it asks, and is told of a fault, and that it goes on at its entry.
func up(t *testing.T, k *Kernel, addr uint64, code int, w ...uint64) {
	t.Helper()
	told(t, k, Result{Err: api.ErrFault, Fault: api.Fault{Addr: addr, Code: code}, Up: true}, w...)
}

func wantState(t *testing.T, k *Kernel, pid int, want trap.State) {
	t.Helper()
	if got := get(t, k, pid).State; got != want {
		t.Errorf("process %d: %+v; want %+v", pid, got, want)
	}
}

// P18.1: pages are mapped, protected and unmapped as space does it, in the space of the process whose turn it is.
func TestPages(t *testing.T) {
	k := boot(t, plan(60, 2))
	fine(t, k, 1, call.Spawn, 20)
	fine(t, k, 0, call.Yield)
	fine(t, k, 0, call.Map, 5, 3, 1)
	want := region.List{{Pages: api.Range{From: 5, To: 8}, Perm: api.Perm{Write: true, User: true}}}
	if got := k.Machine().Regions(1); !slices.Equal(got, want) {
		t.Errorf("regions: %v", got)
	}
	if got := k.Machine().Regions(0); len(got) != 0 {
		t.Errorf("process 0 has regions: %v", got)
	}
	refused(t, k, api.ErrThere, call.Map, 7, 2, 1)
	fine(t, k, 0, call.Store, 6*page, 8, 9)
	fine(t, k, 0, call.Protect, 6, 1, 2)
	faults(t, k, 6*page, 7, call.Store, 6*page, 8, 10)
	fine(t, k, 9, call.Load, 6*page, 8)
	refused(t, k, api.ErrNone, call.Protect, 7, 2, 1)
	fine(t, k, 0, call.Unmap, 6, 1)
	faults(t, k, 6*page, 4, call.Load, 6*page, 8)
	fine(t, k, 0, call.Unmap, 0, 1<<16)
	if got := k.Machine().Regions(1); len(got) != 0 || get(t, k, 1).Used != 1 {
		t.Errorf("behind Unmap: %v, %+v", got, get(t, k, 1))
	}
}

// P18.1: a space may have so many regions and no more.
func TestRegions(t *testing.T) {
	k := boot(t, plan(60, 2))
	for i := range uint64(api.MaxRegions) {
		fine(t, k, 0, call.Map, 4*i, 3, 1)
	}
	refused(t, k, api.ErrBig, call.Map, 1000, 1, 1)
	refused(t, k, api.ErrBig, call.Unmap, 1, 1)
	refused(t, k, api.ErrBig, call.Protect, 1, 1, 0)
	refused(t, k, api.ErrThere, call.Map, 2, 1, 1)
	fine(t, k, 0, call.Map, 3, 1, 1)
	fine(t, k, 0, call.Map, 1000, 1, 1)
}

// P18.1: a page that was never stored to has zeros; numbers of each size are as they were stored.
func TestLoadAndStore(t *testing.T) {
	k := boot(t, plan(60, 2))
	fine(t, k, 0, call.Map, 0, 3, 1)
	fine(t, k, 0, call.Load, page, 8)
	fine(t, k, 0, call.Store, 16, 8, math.MaxUint64)
	fine(t, k, 0, call.Store, 18, 2, 0x1234)
	fine(t, k, 0xffffffff1234ffff, call.Load, 16, 8)
	fine(t, k, 0x12, call.Load, 19, 1)
	fine(t, k, 0, call.Store, 3*page-4, 4, 0x89abcdef)
	fine(t, k, 0x89ab, call.Load, 3*page-2, 2)
	refused(t, k, api.ErrInval, call.Load, 4, 8)
	refused(t, k, api.ErrInval, call.Store, 0, 1, 256)
	refused(t, k, api.ErrInval, call.Load, 1<<47, 8)
	last := uint64(api.TopPage*page - 8)
	faults(t, k, last, 6, call.Store, last, 8, 1)
	fine(t, k, 0, call.Map, api.TopPage-1, 1, 1)
	fine(t, k, 0, call.Store, last, 8, 1)
	fine(t, k, 1, call.Load, last, 8)
}

// P18.1: a fault without an entry, with one, at it, and behind it; each with its own code.
func TestFaults(t *testing.T) {
	k := boot(t, plan(60, 2))
	fine(t, k, 0, call.Move, 2, 99)
	faults(t, k, 5*page, 4, call.Load, 5*page, 8)
	faults(t, k, 5*page+1, 6, call.Store, 5*page+1, 1, 1)
	fine(t, k, 0, call.Map, 5, 2, 0)
	faults(t, k, 5*page, 6, call.Store, 5*page, 8, 1)
	fine(t, k, 0, call.Load, 5*page, 8)
	faults(t, k, 5*page, 7, call.Store, 5*page, 8, 1)

	fine(t, k, 0, call.Handler, 0x1000)
	regs := trap.Regs{0, 0, 99, 0}
	wantState(t, k, 0, trap.State{Regs: regs, Entry: 0x1000})
	up(t, k, 5*page+8, 7, call.Store, 5*page+8, 8, 1)
	there := trap.State{Regs: trap.Regs{5*page + 8, 7, 0, 0}, Entry: 0x1000, In: true, Fault: api.Fault{Addr: 5*page + 8, Code: 7}, Saved: regs}
	wantState(t, k, 0, there)
	faults(t, k, 9*page, 4, call.Load, 9*page, 8)
	faults(t, k, 6*page, 6, call.Store, 6*page, 8, 1)
	wantState(t, k, 0, there)
	refused(t, k, api.ErrBusy, call.Handler, 0x2000)
	fine(t, k, 0, call.Move, 3, 5)
	fine(t, k, 0, call.Protect, 5, 1, 1)
	fine(t, k, 0, call.Store, 5*page+8, 8, 1)
	fine(t, k, 0, call.Return)
	wantState(t, k, 0, trap.State{Regs: regs, Entry: 0x1000})
	refused(t, k, api.ErrNone, call.Return)

	up(t, k, 9*page, 4, call.Load, 9*page, 8)
	fine(t, k, 0, call.Return)
	fine(t, k, 0, call.Handler, 0)
	faults(t, k, 9*page, 4, call.Load, 9*page, 8)
	wantState(t, k, 0, trap.State{Regs: regs})
}

// P18.1: what isn't a fault doesn't go to the entry.
func TestQuotaIsNoFault(t *testing.T) {
	k := boot(t, plan(60, 2))
	for _, frames := range []uint64{1, 2, 3, 4} {
		fine(t, k, 1, call.Spawn, frames)
		turnOf(t, k, 1)
		fine(t, k, 0, call.Map, 0, 2, 1)
		fine(t, k, 0, call.Handler, 64)
		refused(t, k, api.ErrQuota, call.Store, 0, 8, 1)
		refused(t, k, api.ErrQuota, call.Load, 0, 8)
		up(t, k, 2*page, 4, call.Load, 2*page, 8)
		fine(t, k, 0, call.Exit)
	}
	fine(t, k, 1, call.Spawn, 5)
	turnOf(t, k, 1)
	fine(t, k, 0, call.Map, 0, 2, 1)
	fine(t, k, 0, call.Store, 0, 8, 1)
	refused(t, k, api.ErrQuota, call.Store, page, 8, 1)
	if v := get(t, k, 1); v.Used != 5 || v.Room != 0 {
		t.Errorf("it has %+v", v)
	}
}

// P18.1: registers are the process's own, and stay while others have their turns.
func TestStates(t *testing.T) {
	k := boot(t, plan(60, 2))
	fine(t, k, 0, call.Move, 0, math.Float64bits(6))
	fine(t, k, 0, call.Move, 1, math.Float64bits(1.5))
	fine(t, k, 1, call.Spawn, 20)
	wantState(t, k, 1, trap.State{})
	turnOf(t, k, 1)
	fine(t, k, 0, call.Move, 3, math.MaxUint64)
	fine(t, k, 0, call.Handler, 1<<47-1)
	fine(t, k, 0, call.Reckon, 3, 0, 0, 2)
	nan := uint64(0x7ff8000000000000)
	wantState(t, k, 1, trap.State{Regs: trap.Regs{2: nan, 3: math.MaxUint64}, Told: 1, Entry: 1<<47 - 1})
	turnOf(t, k, 0)
	fine(t, k, 0, call.Reckon, 2, 0, 1, 3)
	wantState(t, k, 0, trap.State{Regs: trap.Regs{math.Float64bits(6), math.Float64bits(1.5), 0, math.Float64bits(9)}})
	for op, want := range []float64{7.5, 4.5, 9, 4, 1.5, 6, -6, 6} {
		fine(t, k, 0, call.Reckon, uint64(op), 0, 1, 2)
		if got := get(t, k, 0).State.Regs[2]; got != math.Float64bits(want) {
			t.Errorf("operation %d: %v; want %v", op+1, math.Float64frombits(got), want)
		}
	}
	refused(t, k, api.ErrInval, call.Reckon, 8, 0, 0, 0)
	refused(t, k, api.ErrInval, call.Reckon, 0, 4, 0, 0)
	refused(t, k, api.ErrInval, call.Move, 4, 0)
	refused(t, k, api.ErrInval, call.Handler, 1<<47)
}

// P18.2: words that are no call's change nothing, and are told to whose turn it is.
func TestMalformed(t *testing.T) {
	k := boot(t, plan(60, 2, 1, 2, 1, 2))
	fine(t, k, 0, call.Map, 0, 4, 1)
	fine(t, k, 0, call.Store, 8, 8, 5)
	fine(t, k, 0, call.Handler, 64)
	fine(t, k, 1, call.Spawn, 20)
	fine(t, k, 0, call.Offer, 0, 1, 1)
	fine(t, k, 0, call.Yield)
	k.Tick()
	for _, w := range [][]uint64{
		{}, {17}, {math.MaxUint64}, {1 << 32}, {call.Map}, {call.Map, 0, 0, 1}, {call.Map, 0, 1<<16 + 1, 1}, {call.Map, api.TopPage, 1, 1}, {call.Map, 0, 1, 4},
		{call.Unmap, 0, 1, 1}, {call.Protect, api.TopPage - 1, 2, 0}, {call.Load, 0, 3}, {call.Load, 0, 8, 1}, {call.Store, 8, 4, 1 << 32},
		{call.Offer, 0, 16, 0}, {call.Offer, 0, 0, 2}, {call.Accept, 256, 0}, {call.Accept, 0, api.TopPage}, {call.Revoke, 256}, {call.Leave, 0, 1},
		{call.Return, 1}, {call.Spawn, 1<<20 + 1}, {call.Exit, 0, 0, 0, 0, 1}, {call.Yield, 1},
	} {
		refused(t, k, api.ErrInval, w...)
	}
	rnd := rand.New(rand.NewSource(1))
	lines, left, many := k.Machine().TLB.Lines(), k.cpu.Left(), 0
	for range 3000 {
		w := call.Words{uint64(rnd.Intn(20)), rnd.Uint64() >> rnd.Intn(64), uint64(rnd.Intn(9)), rnd.Uint64() >> rnd.Intn(64), uint64(rnd.Intn(2)), uint64(rnd.Intn(2))}
		if _, e := call.Read(w); e != api.OK {
			many++
			refused(t, k, api.ErrInval, w[:]...)
		}
	}
	if many < 1000 || !slices.Equal(k.Machine().TLB.Lines(), lines) || k.cpu.Left() != left {
		t.Errorf("%d times; lines %v, %d choices left", many, k.Machine().TLB.Lines(), k.cpu.Left())
	}
}

// P18.1, P18.3: loads and stores use the plan's choices, one by one; what is kept by them doesn't show.
func TestChoices(t *testing.T) {
	for _, choices := range [][]int{nil, {1}, {1, 1, 1, 1, 1, 1, 1, 1, 1, 1}, {2, 2, 2, 2, 2, 2}, {-1, math.MinInt, math.MaxInt, 50, 49}} {
		k := boot(t, plan(60, 2, choices...))
		fine(t, k, 0, call.Map, 0, 4, 1)
		fine(t, k, 0, call.Store, 8, 8, 5)
		fine(t, k, 5, call.Load, 8, 8)
		faults(t, k, 9*page, 4, call.Load, 9*page, 8)
		if left := k.cpu.Left(); left != max(0, len(choices)-3) {
			t.Errorf("%v: %d are left", choices, left)
		}
		fine(t, k, 0, call.Protect, 0, 4, 0)
		faults(t, k, 8, 7, call.Store, 8, 8, 6)
		fine(t, k, 0, call.Unmap, 0, 4)
		faults(t, k, 8, 4, call.Load, 8, 8)
		fine(t, k, 0, call.Map, 0, 4, 1)
		fine(t, k, 0, call.Load, 8, 8)
		if stale := k.Machine().Stale(); len(stale) > 0 {
			t.Errorf("%v: stale %+v", choices, stale)
		}
	}
}
