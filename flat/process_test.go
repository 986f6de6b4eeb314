package flat

import (
	"testing"

	"demesne/api"
	"demesne/call"
	"demesne/trap"
)

// P19.1: each error of Spawn, in its order; the least number that none has.
func TestSpawn(t *testing.T) {
	x := boot(t, 59, 2)
	x.refused(api.ErrQuota, call.Spawn, 57)
	x.refused(api.ErrQuota, call.Spawn, api.MaxFrames)
	for range 100 { // each container that stayed would be one fewer
		x.refused(api.ErrQuota, call.Spawn, 0)
	}
	for pid := 1; pid < api.MaxProcs; pid++ {
		x.fine(uint64(pid), call.Spawn, 2)
		x.wantUsed(pid, 1)
	}
	x.wantUsed(0, 1)
	x.wantLine(0, 1, 2, 3, 4, 5, 6, 7, 8, 9, 10, 11, 12, 13, 14, 15)
	x.refused(api.ErrBig, call.Spawn, 2)
	x.refused(api.ErrBig, call.Spawn, 0)
	x.refused(api.ErrBig, call.Spawn, 1000)
	for _, pid := range []int{5, 2, 3} {
		x.turnOf(pid)
		x.fine(0, call.Exit)
		x.wantUsed(pid, -1)
	}
	x.turnOf(0)
	for _, pid := range []uint64{2, 3, 5} {
		x.fine(pid, call.Spawn, 2)
	}
	x.refused(api.ErrBig, call.Spawn, 2)
	x.turnOf(15)
	x.refused(api.ErrBig, call.Spawn, 1)
	x.fine(0, call.Exit)
	x.turnOf(1)
	x.fine(15, call.Spawn, 1)
}

// P19.1: what a process may have goes over to its child, to the last frame.
func TestSpawnRoom(t *testing.T) {
	x := boot(t, 59, 2)
	x.fine(1, call.Spawn, 56)
	x.refused(api.ErrQuota, call.Spawn, 1)
	x.turnOf(1)
	x.refused(api.ErrQuota, call.Spawn, 56)
	x.fine(2, call.Spawn, 55)
	x.turnOf(2)
	x.fine(3, call.Spawn, 4)
	x.fine(0, call.Map, 0, 50, 1)
	for at := range uint64(47) {
		x.fine(0, call.Store, at*page, 1, at)
	}
	x.wantUsed(2, 51)
	x.refused(api.ErrQuota, call.Store, 47*page, 1, 1)
}

// P19.1: process 0 doesn't end.
func TestExitOfTheFirst(t *testing.T) {
	x := boot(t, 59, 2)
	x.refused(api.ErrPerm, call.Exit)
	x.fine(1, call.Spawn, 5)
	x.tick(false)
	x.refused(api.ErrPerm, call.Exit)
	x.tick(true)
}

// P19.1: with a process all go that it spawned, and theirs; what they had is their parents' again, and a new one of their numbers has nothing of it.
func TestExitOfATree(t *testing.T) {
	x := boot(t, 99, 2)
	x.fine(1, call.Spawn, 60)
	x.fine(2, call.Spawn, 10)
	x.turnOf(1)
	x.fine(3, call.Spawn, 30) // 1's
	x.fine(4, call.Spawn, 6)  // 1's
	x.turnOf(2)
	x.fine(5, call.Spawn, 2) // 2's
	x.turnOf(3)
	x.fine(6, call.Spawn, 15) // 3's
	x.turnOf(6)
	x.fine(7, call.Spawn, 5) // 6's
	for _, pid := range []int{1, 3, 6, 7} {
		x.turnOf(pid)
		x.fine(0, call.Handler, 64)
		x.fine(0, call.Map, 0, 2, 1)
		x.fine(0, call.Store, 8, 8, uint64(pid))
	}
	x.turnOf(1)
	x.wantLine(1, 5, 2, 0, 7, 6, 3, 4)
	x.fine(0, call.Exit)
	x.wantLine(5, 2, 0)
	for pid := range api.MaxProcs {
		want := -1
		if pid == 0 || pid == 2 || pid == 5 {
			want = 1
		}
		x.wantUsed(pid, want)
	}
	x.turnOf(0)
	x.fine(1, call.Spawn, 97-1-10)
	x.turnOf(1)
	if s := x.m.procs[1].state; s != (trap.State{}) {
		t.Errorf("process 1: %+v", s)
	}
	x.faults(8, 4, call.Load, 8, 8)
	x.fine(0, call.Map, 0, 2, 1)
	x.fine(0, call.Load, 8, 8)
	x.fine(3, call.Spawn, 5)
}

// P19.1: with a process its grants go, those that it made and those that it took; the pages that others had of it, they have no more.
func TestExitWithGrants(t *testing.T) {
	x := boot(t, 99, 2)
	x.fine(1, call.Spawn, 20)
	x.fine(2, call.Spawn, 20)
	for pid := range 3 {
		x.turnOf(pid)
		x.fine(0, call.Map, 0, 2, 1)
		x.fine(0, call.Store, 8, 8, uint64(pid))
		x.fine(0, call.Store, page+8, 8, uint64(10+pid))
	}
	x.turnOf(0)
	x.fine(0, call.Offer, 0, 1, 1) // taken by 1
	x.fine(1, call.Offer, 1, 1, 1) // not taken
	x.fine(2, call.Offer, 1, 2, 1) // taken by 2
	x.turnOf(1)
	x.fine(0, call.Accept, 0, 9)
	x.fine(16, call.Offer, 0, 0, 1) // taken by 0
	x.fine(17, call.Offer, 1, 2, 0) // taken by 2
	x.turnOf(2)
	x.fine(0, call.Accept, 2, 9)
	x.fine(0, call.Accept, 17, 1<<27)
	x.turnOf(0)
	x.fine(0, call.Accept, 16, 600)
	x.wantUsed(0, 1+3+1+2)
	x.wantUsed(1, 1+3+2)
	x.wantUsed(2, 1+3+2+3)
	x.turnOf(1)
	x.fine(0, call.Store, 9*page+16, 8, 99)
	x.fine(0, call.Exit)
	x.wantUsed(0, 1+3+2)
	x.wantUsed(2, 1+3+2)
	x.turnOf(2)
	x.faults(1<<27*page+8, 4, call.Load, 1<<27*page+8, 8)
	x.fine(10, call.Load, 9*page+8, 8)
	x.turnOf(0)
	x.faults(600*page+8, 4, call.Load, 600*page+8, 8)
	x.fine(99, call.Load, 16, 8)
	x.fine(0, call.Unmap, 0, 1)
	x.refused(api.ErrBusy, call.Unmap, 1, 1)
	x.refused(api.ErrNone, call.Revoke, 0)
	x.refused(api.ErrNone, call.Revoke, 1)
	x.refused(api.ErrNone, call.Leave, 16)
	x.fine(1, call.Spawn, 20)
	x.turnOf(1)
	x.refused(api.ErrNone, call.Accept, 1, 9)
	x.refused(api.ErrNone, call.Revoke, 16)
}

// P19.1: a child lends to its parent, and the parent to the child; both go at once.
func TestExitWithGrantsAmongThoseThatEnd(t *testing.T) {
	x := boot(t, 99, 2)
	x.fine(1, call.Spawn, 40)
	x.turnOf(1)
	x.fine(2, call.Spawn, 15)
	x.fine(0, call.Map, 0, 1, 1)
	x.fine(0, call.Store, 8, 8, 1)
	x.fine(16, call.Offer, 0, 2, 1)
	x.turnOf(2)
	x.fine(0, call.Map, 0, 1, 1)
	x.fine(0, call.Store, 8, 8, 2)
	x.fine(0, call.Accept, 16, 1)
	x.fine(32, call.Offer, 0, 1, 1)
	x.turnOf(1)
	x.fine(0, call.Accept, 32, 1)
	x.fine(2, call.Load, page+8, 8)
	x.wantUsed(1, 5)
	x.wantUsed(2, 5)
	x.fine(0, call.Exit)
	x.wantLine(0)
	x.wantUsed(0, 1)
	for id := range api.MaxProcs * api.MaxGrants {
		if g, ok := x.m.grants.Get(id); ok {
			t.Errorf("grant %d: %+v", id, g)
		}
	}
	x.fine(1, call.Spawn, 96)
}

// P19.1: a process may spawn, and its child lives on while it does; the child's end isn't its parent's.
func TestExitOfAChild(t *testing.T) {
	x := boot(t, 59, 2)
	x.fine(1, call.Spawn, 20)
	x.turnOf(1)
	x.fine(2, call.Spawn, 10)
	x.turnOf(2)
	x.fine(0, call.Exit)
	x.wantUsed(1, 1)
	x.wantUsed(2, -1)
	x.turnOf(1)
	x.fine(2, call.Spawn, 19)
}
