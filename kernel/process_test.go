package kernel

import (
	"math"
	"testing"

	"demesne/api"
	"demesne/call"
	"demesne/share"
	"demesne/trap"
)

// P18.1: a process begins: what it is, and what its parent has then.
func TestSpawn(t *testing.T) {
	k := boot(t, plan(60, 2))
	fine(t, k, 0, call.Move, 0, 9)
	fine(t, k, 1, call.Spawn, 20)
	if v := get(t, k, 1); v != (View{Quota: 20, Used: 1, Room: 19, Space: 1}) {
		t.Errorf("process 1 is %+v", v)
	}
	if v := get(t, k, 0); v != (View{State: trap.State{Regs: trap.Regs{9}}, Quota: 57, Used: 1, Room: 36}) {
		t.Errorf("process 0 is %+v", v)
	}
	turnOf(t, k, 1)
	fine(t, k, 2, call.Spawn, 19)
	if v := get(t, k, 2); v != (View{Parent: 1, Quota: 19, Used: 1, Room: 18, Space: 2}) {
		t.Errorf("process 2 is %+v", v)
	}
	if v := get(t, k, 1); v.Room != 0 || v.Used != 1 {
		t.Errorf("process 1 is %+v", v)
	}
	refused(t, k, api.ErrQuota, call.Spawn, 1)
	fine(t, k, 0, call.Map, 0, 1, 1)
	refused(t, k, api.ErrQuota, call.Store, 0, 1, 1)
}

// P18.1: more than this one has left is refused, just as much isn't.
func TestSpawnRoom(t *testing.T) {
	k := boot(t, plan(60, 2))
	refused(t, k, api.ErrQuota, call.Spawn, 57)
	refused(t, k, api.ErrQuota, call.Spawn, api.MaxFrames)
	refused(t, k, api.ErrInval, call.Spawn, api.MaxFrames+1)
	fine(t, k, 1, call.Spawn, 56)
	refused(t, k, api.ErrQuota, call.Spawn, 1)
	refused(t, k, api.ErrQuota, call.Spawn, 0)
}

// P18.1: with no frame for its root a process can't begin; all is as it was, also the number of the next space.
func TestSpawnWithoutFrames(t *testing.T) {
	k := boot(t, plan(60, 2))
	for range 100 { // each container that stayed would be one fewer
		refused(t, k, api.ErrQuota, call.Spawn, 0)
	}
	fine(t, k, 1, call.Spawn, 1)
	if v := get(t, k, 1); v != (View{Quota: 1, Used: 1, Space: 1}) {
		t.Errorf("process 1 is %+v", v)
	}
	turnOf(t, k, 1)
	refused(t, k, api.ErrQuota, call.Spawn, 0)
	turnOf(t, k, 0)
	fine(t, k, 2, call.Spawn, 5)
	if v := get(t, k, 2); v.Space != 2 {
		t.Errorf("process 2 is %+v", v)
	}
}

// P18.1: sixteen processes, and no more; that goes ahead of what they may have.
func TestSpawnMany(t *testing.T) {
	k := boot(t, plan(60, 2))
	for pid := 1; pid < api.MaxProcs; pid++ {
		fine(t, k, uint64(pid), call.Spawn, 2)
		if v := get(t, k, pid); v.Space != pid {
			t.Errorf("process %d is %+v", pid, v)
		}
	}
	wantLine(t, k, 0, 1, 2, 3, 4, 5, 6, 7, 8, 9, 10, 11, 12, 13, 14, 15)
	refused(t, k, api.ErrBig, call.Spawn, 2)
	refused(t, k, api.ErrBig, call.Spawn, 0)
	refused(t, k, api.ErrBig, call.Spawn, 1000)
	turnOf(t, k, 15)
	refused(t, k, api.ErrBig, call.Spawn, 1)
	fine(t, k, 0, call.Exit)
	fine(t, k, 15, call.Spawn, 2)
	if v := get(t, k, 15); v.Space != 16 {
		t.Errorf("process 15 is %+v", v)
	}
}

// P18.1: the least number that none has, behind ends; spaces have new numbers.
func TestLeastNumber(t *testing.T) {
	k := boot(t, plan(100, 2))
	for pid := range uint64(6) {
		fine(t, k, pid+1, call.Spawn, 5)
	}
	for _, pid := range []int{5, 2, 3} {
		turnOf(t, k, pid)
		fine(t, k, 0, call.Exit)
		wantNobody(t, k, pid)
	}
	turnOf(t, k, 0)
	for i, pid := range []uint64{2, 3, 5, 7} {
		fine(t, k, pid, call.Spawn, 5)
		if v := get(t, k, int(pid)); v != (View{Quota: 5, Used: 1, Room: 4, Space: 7 + i}) {
			t.Errorf("process %d is %+v", pid, v)
		}
	}
}

// P18.1: process 0 doesn't end.
func TestExitOfTheFirst(t *testing.T) {
	k := boot(t, plan(60, 2))
	refused(t, k, api.ErrPerm, call.Exit)
	fine(t, k, 1, call.Spawn, 5)
	k.Tick()
	refused(t, k, api.ErrPerm, call.Exit)
}

// P18.1: with a process all go that it spawned, and theirs; others stay, and their places in the line.
func TestExitOfATree(t *testing.T) {
	k := boot(t, plan(100, 2))
	fine(t, k, 1, call.Spawn, 40) // 1
	fine(t, k, 2, call.Spawn, 10)
	turnOf(t, k, 1)
	fine(t, k, 3, call.Spawn, 20) // 1's
	fine(t, k, 4, call.Spawn, 5)  // 1's
	turnOf(t, k, 2)
	fine(t, k, 5, call.Spawn, 5) // 2's
	turnOf(t, k, 3)
	fine(t, k, 6, call.Spawn, 10) // 3's
	turnOf(t, k, 6)
	fine(t, k, 7, call.Spawn, 5) // 6's
	for pid := 1; pid <= 7; pid++ {
		turnOf(t, k, pid)
		fine(t, k, 0, call.Map, 0, 2, 1)
		if pid < 3 {
			fine(t, k, 0, call.Store, 0, 8, uint64(pid))
		}
	}
	turnOf(t, k, 1)
	wantLine(t, k, 1, 5, 2, 0, 7, 6, 3, 4)
	k.Tick()
	fine(t, k, 0, call.Exit)
	wantLine(t, k, 5, 2, 0)
	wantNobody(t, k, 1, 3, 4, 6, 7)
	if v := get(t, k, 5); v != (View{Parent: 2, Quota: 5, Used: 1, Room: 4, Space: 5}) {
		t.Errorf("process 5 is %+v", v)
	}
	if v := get(t, k, 0); v.Room != 97-1-10 {
		t.Errorf("process 0 is %+v", v)
	}
	turnOf(t, k, 2)
	fine(t, k, 2, call.Load, 0, 8)
	fine(t, k, 0, call.Exit)
	wantLine(t, k, 0)
	wantFree(t, k, 96)
}

// P18.1: with a child that has a lower number than its parent.
func TestExitOfAParentBehindItsChild(t *testing.T) {
	k := boot(t, plan(100, 2))
	fine(t, k, 1, call.Spawn, 10)
	fine(t, k, 2, call.Spawn, 50)
	turnOf(t, k, 1)
	fine(t, k, 0, call.Exit)
	turnOf(t, k, 2)
	fine(t, k, 1, call.Spawn, 30)
	turnOf(t, k, 1)
	fine(t, k, 3, call.Spawn, 10)
	turnOf(t, k, 2)
	fine(t, k, 0, call.Exit)
	wantLine(t, k, 0)
	wantNobody(t, k, 1, 2, 3)
	wantFree(t, k, 96)
}

// P18.1: a child's number is used again by somebody else's: it isn't the first parent's any more.
func TestExitSparesOthers(t *testing.T) {
	k := boot(t, plan(100, 2))
	fine(t, k, 1, call.Spawn, 20)
	turnOf(t, k, 1)
	fine(t, k, 2, call.Spawn, 5)
	turnOf(t, k, 2)
	fine(t, k, 0, call.Exit)
	turnOf(t, k, 0)
	fine(t, k, 2, call.Spawn, 5)
	turnOf(t, k, 1)
	fine(t, k, 0, call.Exit)
	wantNobody(t, k, 1)
	if v := get(t, k, 2); v.Parent != 0 || v.Space != 3 {
		t.Errorf("process 2 is %+v", v)
	}
}

// P18.1: grants go with who offered them, and with who took them; pages that were taken are given back.
func TestExitWithGrants(t *testing.T) {
	k := boot(t, plan(100, 2, 1, 1, 1, 1, 1, 1, 1, 1, 1, 1, 1, 1, 1, 1, 1, 1, 1, 1))
	for pid := range uint64(3) {
		fine(t, k, pid+1, call.Spawn, 20)
	}
	for pid := range 4 {
		turnOf(t, k, pid)
		fine(t, k, 0, call.Map, 0, 4, 1)
		fine(t, k, 0, call.Store, 8, 8, 100+uint64(pid))
	}
	turnOf(t, k, 0)
	fine(t, k, 0, call.Offer, 0, 2, 1) // taken by 2
	fine(t, k, 1, call.Offer, 0, 2, 1) // isn't
	fine(t, k, 2, call.Offer, 0, 1, 0) // has nothing to do with 2
	turnOf(t, k, 1)
	fine(t, k, 0, call.Accept, 2, 9)
	turnOf(t, k, 2)
	fine(t, k, 32, call.Offer, 0, 3, 1) // taken by 3
	fine(t, k, 33, call.Offer, 0, 1, 1) // isn't
	fine(t, k, 0, call.Accept, 0, 9)
	fine(t, k, 100, call.Load, 9*page+8, 8)
	turnOf(t, k, 3)
	fine(t, k, 0, call.Accept, 32, 9)
	fine(t, k, 102, call.Load, 9*page+8, 8)
	wantGrants(t, k, 2, 0, 1, 32, 33)

	turnOf(t, k, 2)
	fine(t, k, 0, call.Exit)
	for _, pid := range []int{2, 3} {
		wantGrants(t, k, pid)
	}
	wantGrants(t, k, 0, 2)
	wantGrants(t, k, 1, 2)
	turnOf(t, k, 3)
	faults(t, k, 9*page+8, 4, call.Load, 9*page+8, 8)
	fine(t, k, 103, call.Load, 8, 8)
	turnOf(t, k, 1)
	fine(t, k, 100, call.Load, 9*page+8, 8)
	turnOf(t, k, 0)
	refused(t, k, api.ErrBusy, call.Unmap, 0, 1)
	fine(t, k, 0, call.Revoke, 2)
	fine(t, k, 0, call.Unmap, 0, 1)
	fine(t, k, 2, call.Spawn, 20)
	wantGrants(t, k, 2) // none of them is to the new one
	if stale := k.Machine().Stale(); len(stale) > 0 {
		t.Errorf("stale: %+v", stale)
	}
}

// P18.1: parents and children that lend to one another end together.
func TestExitWithGrantsWithinATree(t *testing.T) {
	k := boot(t, plan(100, 2))
	fine(t, k, 1, call.Spawn, 60)
	turnOf(t, k, 1)
	fine(t, k, 2, call.Spawn, 20)
	fine(t, k, 3, call.Spawn, 20)
	for pid := 1; pid <= 3; pid++ {
		turnOf(t, k, pid)
		fine(t, k, 0, call.Map, 0, 1, 1)
		fine(t, k, 0, call.Store, 0, 8, uint64(pid))
		for to := 1; to <= 3; to++ {
			if to != pid {
				k.Do(call.Words{call.Offer, 0, uint64(to), 1})
			}
		}
	}
	for pid := 1; pid <= 3; pid++ {
		turnOf(t, k, pid)
		for i, id := range k.Grants(pid) {
			if g, _ := k.grants.Get(id); g.To == pid {
				fine(t, k, 0, call.Accept, uint64(id), uint64(10+i))
			}
		}
	}
	turnOf(t, k, 1)
	fine(t, k, 0, call.Exit)
	wantLine(t, k, 0)
	wantFree(t, k, 96)
	if k.grants != (share.Table{}) {
		t.Error("there are grants")
	}
}

// P18.1: what a process stored nobody sees when its number, and its frames, are used again.
func TestNothingIsLeftOfAProcess(t *testing.T) {
	k := boot(t, plan(20, 2, 1, 1, 1, 1, 1, 1, 1, 1, 1, 1, 1, 1))
	for range 5 {
		fine(t, k, 1, call.Spawn, 16)
		turnOf(t, k, 1)
		wantState(t, k, 1, trap.State{})
		faults(t, k, 0, 4, call.Load, 0, 8)
		fine(t, k, 0, call.Map, 0, 12, 1)
		for p := range uint64(12) {
			fine(t, k, 0, call.Load, p*page+8*p, 8)
			fine(t, k, 0, call.Store, p*page+8*p, 8, math.MaxUint64)
		}
		fine(t, k, 0, call.Move, 0, 1)
		fine(t, k, 0, call.Exit)
	}
}

// P18.1: turns go round by Yield and by ticks; a new process waits behind all others.
func TestTurns(t *testing.T) {
	k := boot(t, plan(60, 3))
	fine(t, k, 0, call.Yield)
	wantLine(t, k, 0)
	fine(t, k, 1, call.Spawn, 20)
	fine(t, k, 0, call.Yield)
	wantLine(t, k, 1, 0)
	fine(t, k, 2, call.Spawn, 5)
	wantLine(t, k, 1, 0, 2)
	for i, c := range []struct {
		over bool
		line []int
	}{
		{false, []int{1, 0, 2}}, {false, []int{1, 0, 2}}, {true, []int{0, 2, 1}}, {false, []int{0, 2, 1}}, {false, []int{0, 2, 1}}, {true, []int{2, 1, 0}},
	} {
		if over, e := k.Tick(); over != c.over || e != api.OK {
			t.Errorf("tick %d: %v, %d", i, over, e)
		}
		wantLine(t, k, c.line...)
	}
	k.Tick()
	k.Tick()
	fine(t, k, 0, call.Yield) // no ticks of the next turn went by
	wantLine(t, k, 1, 0, 2)
	for _, want := range []bool{false, false, true} {
		if over, _ := k.Tick(); over != want {
			t.Errorf("behind Yield: %v", over)
		}
	}
	wantLine(t, k, 0, 2, 1)
	k.Tick()
	fine(t, k, 3, call.Spawn, 5) // a call takes no time
	fine(t, k, 0, call.Map, 0, 1, 1)
	refused(t, k, api.ErrInval)
	k.Tick()
	if over, _ := k.Tick(); !over {
		t.Error("the turn goes on")
	}
	wantLine(t, k, 2, 1, 3, 0)
}

// P18.1: behind an Exit the next one has its turn, of which no ticks went by.
func TestTurnBehindExit(t *testing.T) {
	k := boot(t, plan(60, 3))
	fine(t, k, 1, call.Spawn, 20)
	fine(t, k, 2, call.Spawn, 20)
	turnOf(t, k, 1)
	fine(t, k, 3, call.Spawn, 5)
	wantLine(t, k, 1, 2, 0, 3)
	k.Tick()
	k.Tick()
	if r := k.Do(call.Words{call.Exit}); r != (Result{Pid: 1}) {
		t.Errorf("Exit: %+v", r)
	}
	wantLine(t, k, 2, 0)
	for _, want := range []bool{false, false, true} {
		if over, _ := k.Tick(); over != want {
			t.Errorf("Tick: %v", over)
		}
	}
	wantLine(t, k, 0, 2)
}

// P18.1: the Result says who asked, whatever it was.
func TestPid(t *testing.T) {
	k := boot(t, plan(100, 1))
	for pid := range uint64(4) {
		fine(t, k, pid+1, call.Spawn, 20)
	}
	for i := range 10 {
		want := i % 5
		for _, w := range []call.Words{{99}, {call.Load, 0, 8}, {call.Map, 0, 1}, {call.Return}, {call.Yield}} {
			if r := k.Do(w); r.Pid != want {
				t.Errorf("Do(%v) of process %d: %+v", w, want, r)
			}
		}
	}
}

// P18.5: behind all ends the free frames are those behind Boot, block by block.
func TestFreeFrames(t *testing.T) {
	k := boot(t, plan(300, 2, 1, 2, 1, 2, 1, 2))
	was := look(k)
	for round := range 4 {
		for pid := range uint64(15) {
			fine(t, k, pid+1, call.Spawn, 12)
		}
		for pid := range 16 {
			turnOf(t, k, pid)
			fine(t, k, 0, call.Map, 0, 40, 1)
			fine(t, k, 0, call.Store, uint64(pid)*page, 8, 5)
			fine(t, k, 0, call.Map, 1<<30, 1, 1)
			fine(t, k, 0, call.Load, 1<<42, 8)
			if pid > 0 {
				fine(t, k, uint64(16*pid), call.Offer, uint64(pid), uint64(pid-1), 1)
			}
		}
		for pid := range 15 {
			turnOf(t, k, pid)
			fine(t, k, 0, call.Accept, uint64(16*pid+16), 50)
		}
		for pid := 1; pid < 16; pid++ {
			turnOf(t, k, pid)
			fine(t, k, 0, call.Exit)
		}
		turnOf(t, k, 0)
		fine(t, k, 0, call.Unmap, 0, 1<<16)
		fine(t, k, 0, call.Unmap, 1<<30, 1)
		if k.began != 16+15*round {
			t.Errorf("%d began", k.began)
		}
		was.Began = k.began // the numbers of spaces alone go on
		wantSame(t, k, was)
	}
}
