package kernel

import (
	"fmt"
	"math/rand"
	"testing"

	"demesne/api"
	"demesne/call"
)

// world is a kernel whose processes, but one, ask what its own random source says.
type world struct {
	k   *Kernel
	rnd *rand.Rand
}

// apart is two worlds in which all processes begin, end and yield in the same way, and ticks come at the same times; one process, v, asks the same in both, and has no grants.
type apart struct {
	t      *testing.T
	rnd    *rand.Rand // what is the same in both
	v      int
	worlds [2]*world
	told   map[string]int
}

func anyPage(rnd *rand.Rand) uint64 {
	return uint64([]int{0, 0, 511, api.TopPage - 4}[rnd.Intn(4)] + rnd.Intn(3))
}

// inner: a call that is about the process's own pages and state.
func inner(rnd *rand.Rand) call.Words {
	size := uint64(1) << rnd.Intn(4)
	addr := anyPage(rnd)*page + size*uint64(rnd.Intn(3))
	switch rnd.Intn(12) {
	case 0, 1:
		return call.Words{call.Map, anyPage(rnd), uint64(1 + rnd.Intn(2)), uint64(rnd.Intn(4) | 1)}
	case 2:
		return call.Words{call.Unmap, anyPage(rnd), uint64(1 + rnd.Intn(2))}
	case 3:
		return call.Words{call.Protect, anyPage(rnd), 1, uint64(rnd.Intn(4))}
	case 4:
		return call.Words{call.Handler, uint64(rnd.Intn(3)) * 64}
	case 5:
		return call.Words{call.Return}
	case 6:
		return call.Words{call.Reckon, uint64(rnd.Intn(8)), uint64(rnd.Intn(4)), uint64(rnd.Intn(4)), uint64(rnd.Intn(4))}
	case 7:
		return call.Words{call.Move, uint64(rnd.Intn(4)), rnd.Uint64()}
	case 8, 9:
		return call.Words{call.Store, addr, size, rnd.Uint64() >> (64 - 8*size)}
	}
	return call.Words{call.Load, addr, size}
}

// lone: a call of v: it offers to nobody and to itself alone, and nobody offers to it.
func (x *apart) lone() call.Words {
	switch n := x.rnd.Intn(100); {
	case n < 3:
		return call.Words{call.Spawn, uint64(x.rnd.Intn(8))}
	case n < 4 && x.rnd.Intn(4) == 0:
		return call.Words{call.Exit}
	case n < 10:
		return call.Words{call.Yield}
	case n < 12:
		return call.Words{call.Offer, anyPage(x.rnd), uint64(x.v), 0}
	case n < 16:
		return call.Words{uint64(call.Revoke + x.rnd.Intn(2)), uint64(x.rnd.Intn(256))}
	case n < 18:
		return call.Words{call.Accept, uint64(x.rnd.Intn(256)), anyPage(x.rnd)}
	case n < 19:
		return call.Words{x.rnd.Uint64()}
	}
	return inner(x.rnd)
}

// free: a call of another process, of those that may be unlike in the two worlds.
func (x *apart) free(w *world) call.Words {
	mine := w.k.Grants(w.k.Now())
	id := uint64(w.rnd.Intn(256))
	if len(mine) > 0 {
		id = uint64(mine[w.rnd.Intn(len(mine))])
	}
	switch n := w.rnd.Intn(20); {
	case n < 3:
		line := w.k.Line()
		if to := line[w.rnd.Intn(len(line))]; to != x.v {
			return call.Words{call.Offer, anyPage(w.rnd), uint64(to), uint64(w.rnd.Intn(2))}
		}
	case n < 6:
		return call.Words{call.Accept, id, anyPage(w.rnd)}
	case n < 7:
		return call.Words{uint64(call.Revoke + w.rnd.Intn(2)), id}
	case n < 8:
		return call.Words{0, w.rnd.Uint64()}
	}
	return inner(w.rnd)
}

// ordered: a call by which processes begin, end or yield, the same in both worlds.
func (x *apart) ordered() call.Words {
	switch n := x.rnd.Intn(20); {
	case n < 6:
		if frames := 1 + x.rnd.Intn(14); x.alike(frames) {
			return call.Words{call.Spawn, uint64(frames)}
		}
	case n < 7:
		return call.Words{call.Exit}
	}
	return call.Words{call.Yield}
}

// alike: are both told the same of this spawn? Else nothing is promised behind it.
func (x *apart) alike(frames int) bool {
	a, _ := x.worlds[0].k.Get(x.worlds[0].k.Now())
	b, _ := x.worlds[1].k.Get(x.worlds[1].k.Now())
	return (frames <= a.Room) == (frames <= b.Room)
}

// step: one in each world.
func (x *apart) step() {
	a, b := x.worlds[0].k, x.worlds[1].k
	if x.rnd.Intn(8) == 0 {
		a.Tick()
		b.Tick()
		return
	}
	if a.Now() == x.v {
		w := x.lone()
		x.same(w, a.Do(w), b.Do(w))
		return
	}
	if x.rnd.Intn(10) < 3 {
		w := x.ordered()
		if ra, rb := a.Do(w), b.Do(w); ra != rb {
			x.t.Fatalf("Do(%v): %+v and %+v", w, ra, rb)
		}
		return
	}
	wa, wb := x.free(x.worlds[0]), x.free(x.worlds[1])
	ra, rb := a.Do(wa), b.Do(wb)
	if ra != rb {
		x.told["unlike"]++
	}
	if ra.Err == api.OK && wa[0] == call.Accept {
		x.told["shared"]++
	}
}

// same: v is told the same in both.
func (x *apart) same(w call.Words, a, b Result) {
	x.t.Helper()
	if a != b || a.Pid != x.v {
		x.t.Fatalf("process %d, Do(%v): %+v and %+v", x.v, w, a, b)
	}
	x.told[fmt.Sprint(w[0], " ", a.Err)]++
	if a.X != 0 && w[0] == call.Load {
		x.told["bytes"]++
	}
}

func (x *apart) wantSame() {
	x.t.Helper()
	a, b := x.worlds[0].k, x.worlds[1].k
	va, there := a.Get(x.v)
	if vb, ok := b.Get(x.v); va != vb || there != ok || a.Now() != b.Now() {
		x.t.Fatalf("process %d is %+v and %+v; the turns are %d's and %d's", x.v, va, vb, a.Now(), b.Now())
	}
	if len(a.Grants(x.v))+len(b.Grants(x.v)) > 0 {
		x.t.Fatalf("process %d has grants", x.v)
	}
}

// P18.3: a process without grants is told the same, whatever others do, and whichever translations are kept.
func TestApart(t *testing.T) {
	const steps = 2000
	told := map[string]int{}
	for seed := range int64(120) {
		rnd := rand.New(rand.NewSource(seed))
		x := &apart{t: t, rnd: rnd, v: int(seed % 4), told: told}
		some := plans(rnd, 150, 1+int(seed%5), steps)
		for i := range x.worlds {
			x.worlds[i] = &world{k: boot(t, some[(int(seed)*i+i)%len(some)]), rnd: rand.New(rand.NewSource(1000*seed + int64(i)))}
			for pid := uint64(1); pid < 5; pid++ {
				fine(t, x.worlds[i].k, pid, call.Spawn, 25)
			}
		}
		for range steps {
			x.step()
			x.wantSame()
		}
	}
	for _, what := range []string{"unlike", "shared", "bytes", "1 0", "1 6", "2 0", "3 0", "3 5", "4 0", "4 8", "4 9", "5 0", "5 8", "5 9", "6 5", "7 5", "8 5", "9 5", "12 0", "12 8", "13 0", "14 0"} {
		if told[what] < 50 {
			t.Errorf("%s: %d times only", what, told[what])
		}
	}
}
