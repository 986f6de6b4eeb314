package flat

import (
	"maps"
	"math"
	"reflect"
	"slices"
	"testing"

	"demesne/api"
	"demesne/bootmap"
	"demesne/call"
	"demesne/kernel"
	"demesne/quota"
	"demesne/region"
	"demesne/share"
	"demesne/space"
	"demesne/trap"
)

const page = api.PageSize

// world is a model, and beside it a kernel with as many frames and tables: whatever they are asked, they are asked both.
type world struct {
	t *testing.T
	m *Model
	k *kernel.Kernel
}

// area: one entry of a boot map.
func area(from, many uint64, kind byte) []byte {
	s := make([]byte, bootmap.Size)
	for i := range 8 {
		s[i], s[8+i] = byte(from>>(8*i)), byte(many>>(8*i))
	}
	s[16] = kind
	return s
}

// plan: a machine with so many frames to give, behind one of the kernel's.
func plan(usable, quantum int, choices ...int) kernel.Plan {
	s := space.Plan{Frames: usable + 1, Kernel: api.Range{From: 0, To: 1}, Tags: 3, Map: area(0, uint64(usable+1)*page, bootmap.Usable)}
	return kernel.Plan{Space: s, Quantum: quantum, Choices: choices}
}

// beside: a kernel with this plan, and a model with as many frames and tables.
func beside(t *testing.T, p kernel.Plan) *world {
	t.Helper()
	k, e := kernel.Boot(p)
	if e != api.OK {
		t.Fatalf("the kernel's Boot: %d", e)
	}
	root, _ := k.Machine().Tree.Get(0)
	m, e := Boot(root.Quota, root.Used, p.Quantum)
	if e != api.OK || m == nil {
		t.Fatalf("Boot(%d, %d, %d) = %v, %d", root.Quota, root.Used, p.Quantum, m, e)
	}
	x := &world{t: t, m: m, k: k}
	x.wantAlike()
	return x
}

// boot: a world with so many frames to give, two of which are the kernel's tables.
func boot(t *testing.T, usable, quantum int) *world {
	t.Helper()
	return beside(t, plan(usable, quantum))
}

// words: the first of them are these, the others 0.
func words(w []uint64) (all call.Words) {
	copy(all[:], w)
	return all
}

// told: the process whose turn it is asks, and is told that, by both; its number needn't be said.
func (x *world) told(want kernel.Result, w ...uint64) {
	x.t.Helper()
	want.Pid = x.k.Now()
	if got := x.m.Do(words(w)); got != want {
		x.t.Errorf("Do(%v): %+v; want %+v", w, got, want)
	}
	if got := x.k.Do(words(w)); got != want {
		x.t.Errorf("the kernel: Do(%v): %+v; want %+v", w, got, want)
	}
	x.wantAlike()
}

// fine: it asks, and it is done; it is told that number.
func (x *world) fine(n uint64, w ...uint64) {
	x.t.Helper()
	x.told(kernel.Result{X: n}, w...)
}

// refused: it asks, and is told that error; all is as it was.
func (x *world) refused(e api.Errno, w ...uint64) {
	x.t.Helper()
	was := look(x.m)
	x.told(kernel.Result{Err: e}, w...)
	wantSame(x.t, x.m, was)
}

// faults: it asks, and is told of a fault, without going on at an entry; all is as it was.
func (x *world) faults(addr uint64, code int, w ...uint64) {
	x.t.Helper()
	was := look(x.m)
	x.told(kernel.Result{Err: api.ErrFault, Fault: api.Fault{Addr: addr, Code: code}}, w...)
	wantSame(x.t, x.m, was)
}

// up: it asks, and is told of a fault, and that it goes on at its entry.
func (x *world) up(addr uint64, code int, w ...uint64) {
	x.t.Helper()
	x.told(kernel.Result{Err: api.ErrFault, Fault: api.Fault{Addr: addr, Code: code}, Up: true}, w...)
}

// tick: the clock of both goes on.
func (x *world) tick(want bool) {
	x.t.Helper()
	if over, e := x.m.Tick(); over != want || e != api.OK {
		x.t.Errorf("Tick() = %v, %d; want %v", over, e, want)
	}
	if over, e := x.k.Tick(); over != want || e != api.OK {
		x.t.Errorf("the kernel: Tick() = %v, %d; want %v", over, e, want)
	}
	x.wantAlike()
}

// turnOf: others yield until it is that one's turn.
func (x *world) turnOf(pid int) {
	x.t.Helper()
	for range api.MaxProcs {
		if x.m.Line()[0] == pid {
			return
		}
		x.fine(0, call.Yield)
	}
	x.t.Fatalf("process %d has no turn: %v", pid, x.m.Line())
}

// wantAlike: all that can be asked of both is the same.
func (x *world) wantAlike() {
	x.t.Helper()
	if got, want := x.m.Line(), x.k.Line(); !slices.Equal(got, want) {
		x.t.Errorf("Line() = %v; the kernel's %v", got, want)
	}
	for pid := -1; pid <= api.MaxProcs; pid++ {
		want := -1
		if v, ok := x.k.Get(pid); ok {
			want = v.Used
		}
		if got := x.m.Used(pid); got != want {
			x.t.Errorf("Used(%d) = %d; the kernel's %d", pid, got, want)
		}
	}
}

func (x *world) wantUsed(pid, want int) {
	x.t.Helper()
	if got := x.m.Used(pid); got != want {
		x.t.Errorf("Used(%d) = %d; want %d", pid, got, want)
	}
}

func (x *world) wantLine(want ...int) {
	x.t.Helper()
	if got := x.m.Line(); !slices.Equal(got, want) {
		x.t.Errorf("Line() = %v; want %v", got, want)
	}
}

// scene is all that a model is.
type scene struct {
	Line   []int
	Ticks  int
	Grants map[int]share.Grant
	Boxes  map[int]quota.Node
	Procs  map[int]proc
}

// proc is a process of a scene.
type proc struct {
	Parent, Box int
	State       trap.State
	Regions     region.List
	Bytes       map[int]content
	Ways        map[way]int
}

// look: all of it, in memory of its own.
func look(m *Model) scene {
	s := outline(m)
	for pid, p := range m.procs {
		for at, c := range p.leads {
			s.Procs[pid].Bytes[at] = *c
		}
	}
	return s
}

// outline: all but the bytes.
func outline(m *Model) scene {
	s := scene{Line: m.turns.Line(), Ticks: m.turns.Ticks(), Grants: map[int]share.Grant{}, Boxes: map[int]quota.Node{}, Procs: map[int]proc{}}
	for id := range api.MaxProcs * api.MaxGrants {
		if g, ok := m.grants.Get(id); ok {
			s.Grants[id] = g
		}
	}
	for _, box := range m.boxes.Live() {
		s.Boxes[box], _ = m.boxes.Get(box)
	}
	for pid, p := range m.procs {
		s.Procs[pid] = proc{p.parent, p.box, p.state, append(region.List{}, p.regions...), map[int]content{}, maps.Clone(p.ways)}
	}
	return s
}

func wantSame(t *testing.T, m *Model, was scene) {
	t.Helper()
	if now := look(m); !reflect.DeepEqual(now, was) {
		t.Errorf("it has changed: %+v %+v %+v\nwas %+v %+v %+v", now.Line, now.Grants, now.Boxes, was.Line, was.Grants, was.Boxes)
	}
}

// Example 1 of the chapter.
func TestExample(t *testing.T) {
	x := boot(t, 59, 2)
	x.fine(0, call.Map, 0, 4, 1)
	x.fine(0, call.Store, 8, 8, 5)
	x.fine(5, call.Load, 8, 8)
	x.wantUsed(0, 5)
	m, e := Boot(59, 2, 2)
	if e != api.OK {
		t.Fatal(e)
	}
	m.Do(call.Words{call.Map, 0, 4, 1})
	m.Do(call.Words{call.Store, 8, 8, 5})
	if r := m.Do(call.Words{call.Load, 8, 8}); r != (kernel.Result{X: 5}) || m.Used(0) != 5 {
		t.Errorf("%+v, %d", r, m.Used(0))
	}
}

// Examples 1 to 10 of the whole.
func TestExamplesOfTheWhole(t *testing.T) {
	x := boot(t, 39, 2)
	x.wantUsed(0, 1)
	x.faults(0, 4, call.Load, 0, 8)
	x.fine(0, call.Map, 0, 4, 1)
	x.wantUsed(0, 1)
	x.fine(0, call.Store, 8, 8, 5)
	x.wantUsed(0, 5)

	x.fine(0, call.Handler, 7*page)
	was := x.m.procs[0].state
	x.up(9*page, 6, call.Store, 9*page, 1, 1)
	if s := x.m.procs[0].state; s.Regs != (trap.Regs{9 * page, 6}) || !s.In {
		t.Errorf("behind the fault: %+v", s)
	}
	x.fine(0, call.Return)
	if s := x.m.procs[0].state; s != was {
		t.Errorf("behind the return: %+v", s)
	}

	x.fine(1, call.Spawn, 6)
	x.wantLine(0, 1)
	x.fine(0, call.Offer, 0, 1, 1)
	x.turnOf(1)
	x.fine(0, call.Accept, 0, 9)
	x.fine(5, call.Load, 9*page+8, 8)
	x.fine(0, call.Store, 9*page+16, 4, 77)
	x.turnOf(0)
	x.fine(77, call.Load, 16, 8)
	x.refused(api.ErrBusy, call.Unmap, 0, 1)

	x.fine(0, call.Revoke, 0)
	x.turnOf(1)
	x.faults(9*page+8, 4, call.Load, 9*page+8, 8)

	x.fine(2, call.Spawn, 3)
	x.turnOf(2)
	x.fine(0, call.Map, 0, 1, 1)
	x.refused(api.ErrQuota, call.Store, 0, 8, 1)

	x.turnOf(1)
	x.fine(0, call.Exit)
	x.wantUsed(1, -1)
	x.wantUsed(2, -1)
	x.wantUsed(0, 5)
	x.fine(1, call.Spawn, 6)
	x.turnOf(1)
	x.fine(0, call.Map, 9, 1, 1)
	x.fine(0, call.Load, 9*page+16, 8)

	x.fine(0, call.Move, 0, math.Float64bits(1))
	x.fine(0, call.Reckon, 3, 0, 1, 2)
	x.fine(0, call.Reckon, 3, 1, 1, 3)
	if s := x.m.procs[1].state; s.Regs[2] != math.Float64bits(math.Inf(1)) || s.Regs[3] != 0x7ff8000000000000 || s.Told != 3 {
		t.Errorf("1 / 0 and 0 / 0: %+v", s)
	}
	x.refused(api.ErrInval, 99)
}

// P19.1: the zero Model wasn't booted: it says so to each call, and has nobody.
func TestZeroModel(t *testing.T) {
	var m Model
	for op := range uint64(18) {
		for _, w := range []call.Words{{op}, {op, 0, 1}, {op, 1, 1, 1, 1, 1}, {op, 0, 8}} {
			if r := m.Do(w); r != (kernel.Result{Err: api.ErrNoBoot}) {
				t.Errorf("Do(%v) = %+v", w, r)
			}
		}
	}
	for range 3 {
		if over, e := m.Tick(); over || e != api.ErrNoBoot {
			t.Errorf("Tick() = %v, %d", over, e)
		}
	}
	if len(m.Line()) != 0 {
		t.Errorf("Line() = %v", m.Line())
	}
	for _, pid := range []int{math.MinInt, -1, 0, 1, 15, 16, math.MaxInt} {
		if n := m.Used(pid); n != -1 {
			t.Errorf("Used(%d) = %d", pid, n)
		}
	}
}

// P19.1: each error of Boot, in its order; the least with which process 0 can begin, and one less.
func TestBoot(t *testing.T) {
	for _, c := range []struct {
		usable, tables, quantum int
		want                    api.Errno
	}{
		{59, 2, 2, api.OK},
		{59, -1, 2, api.ErrArg},
		{59, math.MinInt, 2, api.ErrArg},
		{59, 0, 2, api.OK},
		{59, 58, 2, api.OK},
		{59, 59, 2, api.ErrQuota},
		{59, 60, 2, api.ErrArg},
		{59, math.MaxInt, 2, api.ErrArg},
		{1, 0, 2, api.OK},
		{0, 0, 2, api.ErrQuota},
		{0, 1, 2, api.ErrArg},
		{-1, -1, 2, api.ErrArg},
		{-1, 0, 2, api.ErrArg},
		{-5, -9, 2, api.ErrArg},
		{math.MinInt, 0, 2, api.ErrArg},
		{math.MinInt, math.MinInt, 2, api.ErrArg},
		{3, 2, 2, api.OK},
		{2, 2, 2, api.ErrQuota},
		{2, 3, 1, api.ErrArg},
		{1 << 20, 5, 2, api.OK},
		{1 << 20, 1 << 20, 2, api.ErrQuota},
		{1 << 20, 1<<20 - 1, 2, api.OK},
		{1<<20 + 1, 5, 2, api.ErrArg},
		{math.MaxInt, math.MaxInt, 2, api.ErrArg},
		{59, 2, 1, api.OK},
		{59, 2, 1000, api.OK},
		{59, 2, 0, api.ErrArg},
		{59, 2, -1, api.ErrArg},
		{59, 2, 1001, api.ErrArg},
		{59, 2, math.MinInt, api.ErrArg},
		{2, 2, 0, api.ErrArg},
		{0, 0, 1001, api.ErrArg},
	} {
		m, e := Boot(c.usable, c.tables, c.quantum)
		if e != c.want || (m == nil) != (e != api.OK) {
			t.Errorf("Boot(%d, %d, %d) = %v, %d; want %d", c.usable, c.tables, c.quantum, m, e, c.want)
			continue
		}
		if m == nil {
			continue
		}
		if root, _ := m.boxes.Get(0); root.Quota != c.usable || root.Used != c.tables || m.boxes.Room(0) != 0 {
			t.Errorf("Boot(%d, %d, %d): the root is %+v", c.usable, c.tables, c.quantum, root)
		}
		if m.Used(0) != 1 || !slices.Equal(m.Line(), []int{0}) {
			t.Errorf("Boot(%d, %d, %d): %d, %v", c.usable, c.tables, c.quantum, m.Used(0), m.Line())
		}
	}
}

// P19.1, P19.2: process 0 may have all that the tables leave, and no more; so it is of the kernel.
func TestRoomOfTheFirst(t *testing.T) {
	x := boot(t, 3, 2)
	x.fine(0, call.Map, 0, 1, 1)
	x.refused(api.ErrQuota, call.Store, 0, 1, 1)
	x.refused(api.ErrQuota, call.Spawn, 1)
	x = boot(t, 7, 2)
	x.fine(0, call.Map, 0, 2, 1)
	x.fine(0, call.Store, 0, 1, 1)
	x.refused(api.ErrQuota, call.Store, page, 1, 1)
	x.wantUsed(0, 5)
	for usable := 1; usable < 4; usable++ {
		_, e := kernel.Boot(plan(usable, 2))
		m, of := Boot(usable, min(usable, 2), 2)
		if want := usable >= 3; want != (e == api.OK) || want != (of == api.OK) || want != (m != nil) {
			t.Errorf("%d frames: the kernel's Boot %d, the model's %d", usable, e, of)
		}
	}
}

// P19.2: a machine whose map has holes, and one whose kernel has more tables.
func TestOtherMachines(t *testing.T) {
	p := plan(59, 3)
	p.Space.Map = append(p.Space.Map, area(3*page+1, 1, 2)...)
	p.Space.Map = append(p.Space.Map, area(10*page, 40*page, 7)...)
	p.Space.Kernel = api.Range{From: 55, To: 57}
	x := beside(t, p)
	if root, _ := x.m.boxes.Get(0); root.Quota != 60-1-40-2 || root.Used != 2 {
		t.Errorf("the root is %+v", root)
	}
	x.fine(0, call.Map, 0, 16, 1)
	for at := range uint64(16) {
		if at < 17-2-4 {
			x.fine(0, call.Store, at*page, 1, at)
		} else {
			x.refused(api.ErrQuota, call.Store, at*page, 1, at)
		}
	}
	p = plan(1<<18, 3)
	p.Space.Map = area(5*page, 12*page, bootmap.Usable)
	x = beside(t, p)
	if root, _ := x.m.boxes.Get(0); root.Quota != 12 || root.Used != 3 {
		t.Errorf("the root is %+v", root)
	}
	x.fine(0, call.Map, 0, 8, 1)
	for at := range uint64(8) {
		if at < 12-3-4 {
			x.fine(0, call.Store, at*page, 1, at)
		} else {
			x.refused(api.ErrQuota, call.Store, at*page, 1, at)
		}
	}
}

// P19.1: Used of numbers that are no process's.
func TestUsedOfNobody(t *testing.T) {
	x := boot(t, 59, 2)
	x.fine(1, call.Spawn, 5)
	for _, pid := range []int{math.MinInt, -2, -1, 2, 3, 15, 16, 17, 1 << 32, math.MaxInt} {
		x.wantUsed(pid, -1)
	}
	x.wantUsed(0, 1)
	x.wantUsed(1, 1)
	x.turnOf(1)
	x.fine(0, call.Exit)
	x.wantUsed(1, -1)
}

// P19.1: ticks make turns, and a turn that ends otherwise begins anew.
func TestTick(t *testing.T) {
	x := boot(t, 59, 2)
	x.tick(false)
	x.tick(true)
	x.wantLine(0)
	x.fine(1, call.Spawn, 5)
	x.fine(2, call.Spawn, 5)
	x.tick(false)
	x.tick(true)
	x.wantLine(1, 2, 0)
	x.tick(false)
	x.fine(0, call.Yield)
	x.wantLine(2, 0, 1)
	x.tick(false)
	x.fine(0, call.Exit)
	x.wantLine(0, 1)
	x.tick(false)
	x.tick(true)
	x.wantLine(1, 0)
	x.tick(false)
	x.refused(api.ErrInval, 0)
	x.tick(true)
	x = boot(t, 59, 1)
	x.fine(1, call.Spawn, 5)
	x.tick(true)
	x.tick(true)
	x.wantLine(0, 1)
	x = boot(t, 59, 1000)
	for i := range 2000 {
		x.tick(i%1000 == 999)
	}
}

// P2 (K3): what is answered is new memory.
func TestLineIsNew(t *testing.T) {
	x := boot(t, 59, 2)
	x.fine(1, call.Spawn, 5)
	x.fine(2, call.Spawn, 5)
	l := x.m.Line()
	clear(l)
	_ = append(x.m.Line()[:1], 9)
	x.wantLine(0, 1, 2)
	l = x.m.Line()
	x.fine(0, call.Yield)
	if !slices.Equal(l, []int{0, 1, 2}) {
		t.Errorf("the model has changed an answer: %v", l)
	}
}

// P19.3, P2 (K4): two models behind the same calls are the same, and nobody else's.
func TestApart(t *testing.T) {
	a, _ := Boot(59, 2, 9)
	b, _ := Boot(59, 2, 9)
	fresh := look(b)
	calls := []call.Words{
		{call.Map, 0, 4, 1}, {call.Store, 8, 8, 5}, {call.Spawn, 20}, {call.Offer, 0, 1, 1}, {call.Yield}, {call.Accept, 0, 9}, {call.Store, 9*page + 8, 8, 6}, {call.Handler, 64},
		{call.Load, 0, 8}, {call.Move, 3, 7}, {call.Spawn, 3}, {call.Yield}, {call.Load, 8, 8},
	}
	var of []kernel.Result
	for _, w := range calls {
		of = append(of, a.Do(w))
		a.Tick()
	}
	wantSame(t, b, fresh)
	was := look(a)
	if b.Used(1) != -1 || a.Used(1) != 4 {
		t.Errorf("Used(1): %d, %d", a.Used(1), b.Used(1))
	}
	for i, w := range calls {
		if r := b.Do(w); r != of[i] {
			t.Errorf("Do(%v): %+v, %+v", w, of[i], r)
		}
		b.Tick()
	}
	wantSame(t, b, was)
	b.Do(call.Words{call.Store, 8, 8, 99})
	wantSame(t, a, was)
}
