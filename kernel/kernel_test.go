package kernel

import (
	"math"
	"reflect"
	"slices"
	"testing"

	"demesne/api"
	"demesne/bootmap"
	"demesne/call"
	"demesne/quota"
	"demesne/region"
	"demesne/share"
	"demesne/space"
	"demesne/table"
	"demesne/trap"
)

const page = api.PageSize

// area: one entry of a boot map.
func area(from, many uint64, kind byte) []byte {
	s := make([]byte, bootmap.Size)
	for i := range 8 {
		s[i], s[8+i] = byte(from>>(8*i)), byte(many>>(8*i))
	}
	s[16] = kind
	return s
}

// plan: a machine of so many frames, the first the kernel's; its tables have two more.
func plan(frames, quantum int, choices ...int) Plan {
	s := space.Plan{Frames: frames, Kernel: api.Range{From: 0, To: 1}, Tags: 3, Map: area(0, uint64(frames)*page, bootmap.Usable)}
	return Plan{Space: s, Quantum: quantum, Choices: choices}
}

func boot(t *testing.T, p Plan) *Kernel {
	t.Helper()
	k, e := Boot(p)
	if e != api.OK || k == nil {
		t.Fatalf("Boot: %v, %d", k, e)
	}
	return k
}

// told: the process whose turn it is asks, and is told that; its number needn't be said.
func told(t *testing.T, k *Kernel, want Result, w ...uint64) {
	t.Helper()
	want.Pid = k.Now()
	var all call.Words
	copy(all[:], w)
	if got := k.Do(all); got != want {
		t.Errorf("Do(%v): %+v; want %+v", w, got, want)
	}
}

// fine: it asks, and it is done; it is told that number.
func fine(t *testing.T, k *Kernel, x uint64, w ...uint64) {
	t.Helper()
	told(t, k, Result{X: x}, w...)
}

// refused: it asks, and is told that error; all is as it was.
func refused(t *testing.T, k *Kernel, e api.Errno, w ...uint64) {
	t.Helper()
	was := look(k)
	told(t, k, Result{Err: e}, w...)
	wantSame(t, k, was)
}

// faults: it asks, and is told of a fault, without going on at an entry; all is as it was.
func faults(t *testing.T, k *Kernel, addr uint64, code int, w ...uint64) {
	t.Helper()
	was := look(k)
	told(t, k, Result{Err: api.ErrFault, Fault: api.Fault{Addr: addr, Code: code}}, w...)
	wantSame(t, k, was)
}

// turnOf: others yield until it is that one's turn.
func turnOf(t *testing.T, k *Kernel, pid int) {
	t.Helper()
	for range api.MaxProcs {
		if k.Now() == pid {
			return
		}
		fine(t, k, 0, call.Yield)
	}
	t.Fatalf("process %d has no turn: %v", pid, k.Line())
}

func wantLine(t *testing.T, k *Kernel, want ...int) {
	t.Helper()
	if got := k.Line(); !slices.Equal(got, want) || k.Now() != want[0] {
		t.Errorf("Line() = %v, Now() = %d; want %v", got, k.Now(), want)
	}
}

func wantGrants(t *testing.T, k *Kernel, pid int, want ...int) {
	t.Helper()
	if got := k.Grants(pid); !slices.Equal(got, want) {
		t.Errorf("Grants(%d) = %v; want %v", pid, got, want)
	}
}

func get(t *testing.T, k *Kernel, pid int) View {
	t.Helper()
	v, ok := k.Get(pid)
	if !ok {
		t.Errorf("no process %d", pid)
	}
	return v
}

func wantNobody(t *testing.T, k *Kernel, pids ...int) {
	t.Helper()
	for _, pid := range pids {
		if v, ok := k.Get(pid); ok || v != (View{}) {
			t.Errorf("Get(%d) = %+v, %v", pid, v, ok)
		}
	}
}

// scene is all that a kernel is, as far as it can show; what is kept of translations, and who has a tag, can't.
type scene struct {
	Line    []int
	Ticks   int
	Views   map[int]View
	Grants  map[int]share.Grant
	Boxes   map[int]quota.Node
	Blocks  [api.MaxOrder + 1][]int
	Given   []int
	Regions map[int]region.List
	Bytes   map[[2]int][page / 8]uint64 // by space and page
	Began   int
}

// look: all of it.
func look(k *Kernel) scene {
	s, m := outline(k), k.Machine()
	s.Bytes = map[[2]int][page / 8]uint64{}
	for _, id := range m.Spaces() {
		for _, p := range m.Pages(id) {
			s.Bytes[[2]int{id, p}] = bytesOf(m, id, p)
		}
	}
	return s
}

// outline: all but the bytes.
func outline(k *Kernel) scene {
	m := k.Machine()
	s := scene{Line: k.Line(), Ticks: k.turns.Ticks(), Views: map[int]View{}, Grants: map[int]share.Grant{}, Boxes: map[int]quota.Node{},
		Given: m.Free.Given(), Regions: map[int]region.List{}, Began: k.began}
	for pid := range api.MaxProcs {
		if v, ok := k.Get(pid); ok {
			s.Views[pid] = v
		}
	}
	for id := range api.MaxProcs * api.MaxGrants {
		if g, ok := k.grants.Get(id); ok {
			s.Grants[id] = g
		}
	}
	for _, box := range m.Tree.Live() {
		s.Boxes[box], _ = m.Tree.Get(box)
	}
	for order := range s.Blocks {
		s.Blocks[order] = m.Free.Blocks(order)
	}
	for _, id := range m.Spaces() {
		s.Regions[id] = m.Regions(id)
	}
	return s
}

// bytesOf: what a page that leads somewhere has, eight bytes at a time.
func bytesOf(m *space.Machine, id, p int) (all [page / 8]uint64) {
	root, _ := m.Root(id)
	frame, _, _ := table.Query(table.Purse{RAM: m.RAM, Free: m.Free, Tree: m.Tree}, root, p)
	for i := range all {
		all[i], _ = m.RAM.Load(uint64(frame*page+8*i), 8)
	}
	return all
}

func wantSame(t *testing.T, k *Kernel, was scene) {
	t.Helper()
	if now := look(k); !reflect.DeepEqual(now, was) {
		now.Bytes, was.Bytes = nil, nil // they would fill the screen
		t.Errorf("it has changed: %+v\nwas %+v", now, was)
	}
}

// wantFree: just these frames are free.
func wantFree(t *testing.T, k *Kernel, want int) {
	t.Helper()
	if got := k.Machine().Free.Free(); got != want {
		t.Errorf("%d frames are free; want %d", got, want)
	}
}

// Example 1 of the chapter.
func TestExample(t *testing.T) {
	k := boot(t, plan(40, 2))
	faults(t, k, 0, 4, call.Load, 0, 8)
	fine(t, k, 0, call.Map, 0, 4, 1)
	fine(t, k, 0, call.Store, 8, 8, 5)
	fine(t, k, 5, call.Load, 8, 8)
	fine(t, k, 1, call.Spawn, 6)
	fine(t, k, 0, call.Yield)
	if k.Now() != 1 {
		t.Errorf("Now() = %d", k.Now())
	}
	faults(t, k, 8, 4, call.Load, 8, 8)
}

// Examples 1 to 8 of the whole.
func TestExamplesOfTheWhole(t *testing.T) {
	k := boot(t, plan(40, 2))
	wantFree(t, k, 36)
	fine(t, k, 0, call.Map, 0, 4, 1)
	wantFree(t, k, 36)
	fine(t, k, 0, call.Store, 8, 8, 5)
	wantFree(t, k, 32)

	fine(t, k, 0, call.Handler, 7*page)
	was := get(t, k, 0).State
	told(t, k, Result{Err: api.ErrFault, Fault: api.Fault{Addr: 9 * page, Code: 6}, Up: true}, call.Store, 9*page, 1, 1)
	if s := get(t, k, 0).State; s.Regs != (trap.Regs{9 * page, 6}) || !s.In {
		t.Errorf("behind the fault: %+v", s)
	}
	fine(t, k, 0, call.Return)
	if s := get(t, k, 0).State; s != was {
		t.Errorf("behind the return: %+v", s)
	}

	fine(t, k, 1, call.Spawn, 6)
	wantLine(t, k, 0, 1)
	fine(t, k, 0, call.Offer, 0, 1, 1)
	turnOf(t, k, 1)
	fine(t, k, 0, call.Accept, 0, 9)
	fine(t, k, 5, call.Load, 9*page+8, 8)
	fine(t, k, 0, call.Store, 9*page+16, 4, 77)
	turnOf(t, k, 0)
	fine(t, k, 77, call.Load, 16, 8)
	refused(t, k, api.ErrBusy, call.Unmap, 0, 1)

	fine(t, k, 0, call.Revoke, 0)
	turnOf(t, k, 1)
	faults(t, k, 9*page+8, 4, call.Load, 9*page+8, 8)

	fine(t, k, 2, call.Spawn, 3)
	turnOf(t, k, 2)
	fine(t, k, 0, call.Map, 0, 1, 1)
	refused(t, k, api.ErrQuota, call.Store, 0, 8, 1)

	turnOf(t, k, 1)
	fine(t, k, 0, call.Exit)
	wantNobody(t, k, 1, 2)
	wantFree(t, k, 32)
	fine(t, k, 1, call.Spawn, 6)
	turnOf(t, k, 1)
	fine(t, k, 0, call.Map, 9, 1, 1)
	fine(t, k, 0, call.Load, 9*page+16, 8)
}

// Examples 9 and 10 of the whole.
func TestReckonAndNoCall(t *testing.T) {
	k := boot(t, plan(40, 2))
	fine(t, k, 0, call.Move, 0, math.Float64bits(1))
	fine(t, k, 0, call.Reckon, 3, 0, 1, 2)
	if s := get(t, k, 0).State; s.Regs[2] != math.Float64bits(math.Inf(1)) || s.Told != 2 {
		t.Errorf("1 / 0: %+v", s)
	}
	fine(t, k, 0, call.Reckon, 3, 1, 1, 3)
	if s := get(t, k, 0).State; s.Regs[3] != 0x7ff8000000000000 || s.Told != 3 {
		t.Errorf("0 / 0: %+v", s)
	}
	refused(t, k, api.ErrInval, 99)
	p := plan(40, 2)
	p.Space.Map = nil
	if k, e := Boot(p); k != nil || e != api.ErrNoMem {
		t.Errorf("a map without a frame: %v, %d", k, e)
	}
}

// P18.1: the zero Kernel wasn't booted: it says so to each call, and has nothing to show.
func TestZeroKernel(t *testing.T) {
	var k Kernel
	for op := range uint64(18) {
		for _, w := range []call.Words{{op}, {op, 0, 1}, {op, 1, 1, 1, 1, 1}, {op, 0, 8}} {
			if r := k.Do(w); r != (Result{Err: api.ErrNoBoot}) {
				t.Errorf("Do(%v) = %+v", w, r)
			}
		}
	}
	for range 3 {
		if over, e := k.Tick(); over || e != api.ErrNoBoot {
			t.Errorf("Tick() = %v, %d", over, e)
		}
	}
	if k.Now() != 0 || len(k.Line()) != 0 || k.Machine() != nil {
		t.Errorf("Now %d, Line %v, Machine %v", k.Now(), k.Line(), k.Machine())
	}
	for _, pid := range []int{math.MinInt, -1, 0, 1, 15, 16, math.MaxInt} {
		wantNobody(t, &k, pid)
		wantGrants(t, &k, pid)
	}
}

// shredded: as many free ranges as a map can say, and, as the kernel has a frame in the midst of one of them, one more.
func shredded() Plan {
	p := plan(200, 2)
	p.Space.Map = area(0, 200*page, bootmap.Usable)
	for i := range uint64(63) {
		p.Space.Map = append(p.Space.Map, area((3*i+1)*page, page, 2)...)
	}
	p.Space.Kernel = api.Range{From: 195, To: 196}
	return p
}

// P18.1: the errors of Boot, in their order: the machine's, the turns', process 0's.
func TestBootErrors(t *testing.T) {
	change := func(f func(p *Plan)) Plan {
		p := plan(40, 2)
		f(&p)
		return p
	}
	for _, c := range []struct {
		what string
		p    Plan
		want api.Errno
	}{
		{"the zero Plan", Plan{}, api.ErrArg},
		{"no frames", change(func(p *Plan) { p.Space.Frames = 0 }), api.ErrArg},
		{"frames below 0", change(func(p *Plan) { p.Space.Frames = math.MinInt }), api.ErrArg},
		{"too many frames", change(func(p *Plan) { p.Space.Frames = api.MaxFrames + 1 }), api.ErrArg},
		{"a kernel that isn't there", change(func(p *Plan) { p.Space.Kernel.To = 41 }), api.ErrArg},
		{"too long a map", change(func(p *Plan) { p.Space.Map = make([]byte, 65*bootmap.Size) }), api.ErrBig},
		{"bytes are wanting", change(func(p *Plan) { p.Space.Map = p.Space.Map[1:] }), api.ErrEnd},
		{"an area without an end", change(func(p *Plan) { p.Space.Map = area(1, math.MaxUint64, 1) }), api.ErrForm},
		{"no frame is left", change(func(p *Plan) { p.Space.Kernel.To = 40 }), api.ErrNoMem},
		{"no tags", change(func(p *Plan) { p.Space.Tags = 0 }), api.ErrArg},
		{"too many tags", change(func(p *Plan) { p.Space.Tags = 4096 }), api.ErrArg},
		{"too many ranges", shredded(), api.ErrBig},
		{"no room for the kernel's tables", plan(2, 2), api.ErrQuota},
		{"no turn", plan(40, 0), api.ErrArg},
		{"a turn below 0", plan(40, -1), api.ErrArg},
		{"too long a turn", plan(40, 1001), api.ErrArg},
		{"no room for process 0", plan(3, 2), api.ErrQuota},
		{"no frame is left, and no turn", change(func(p *Plan) { p.Space.Map, p.Quantum = nil, 0 }), api.ErrNoMem},
		{"no room for the tables, and no turn", plan(2, 0), api.ErrQuota},
		{"no turn, and no room for process 0", plan(3, 0), api.ErrArg},
	} {
		if k, e := Boot(c.p); k != nil || e != c.want {
			t.Errorf("%s: %v, %d; want %d", c.what, k, e, c.want)
		}
	}
	for _, quantum := range []int{1, 1000} {
		boot(t, plan(4, quantum))
	}
}

// P18.1: process 0 may have all that is left, behind a root that has the kernel's tables alone; its turn it is.
func TestBoot(t *testing.T) {
	for _, frames := range []int{4, 5, 40, 1000} {
		k := boot(t, plan(frames, 3))
		if v := get(t, k, 0); v != (View{Quota: frames - 3, Used: 1, Room: frames - 4}) {
			t.Errorf("%d frames: process 0 is %+v", frames, v)
		}
		wantFree(t, k, frames-4)
		wantLine(t, k, 0)
		wantGrants(t, k, 0)
		wantNobody(t, k, -1, 1, 15, 16)
		m := k.Machine()
		root, _ := m.Tree.Get(0)
		if want := (quota.Node{Parent: -1, Quota: frames - 1, Used: 2, Lent: frames - 3, Live: true}); root != want {
			t.Errorf("%d frames: the root is %+v", frames, root)
		}
		if !slices.Equal(m.Tree.Live(), []int{0, 1}) || !slices.Equal(m.Spaces(), []int{0}) {
			t.Errorf("containers %v, spaces %v", m.Tree.Live(), m.Spaces())
		}
		if m != k.Machine() {
			t.Error("another machine")
		}
	}
}

// K3: what Boot was handed isn't changed, nor kept.
func TestBootKeepsNothing(t *testing.T) {
	p, q := plan(40, 2, 1, 2, 3, 4, 5, 6), plan(40, 2, 1, 2, 3, 4, 5, 6)
	k := boot(t, p)
	for i := range p.Choices {
		p.Choices[i] = 0
	}
	clear(p.Space.Map)
	fine(t, k, 0, call.Map, 0, 4, 1)
	fine(t, k, 0, call.Store, 0, 8, 5)
	if lines := k.Machine().TLB.Lines(); len(lines) != 1 {
		t.Errorf("lines: %+v", lines)
	}
	k = boot(t, q)
	fine(t, k, 0, call.Map, 0, 4, 1)
	for i := range uint64(8) {
		fine(t, k, 0, call.Store, i%4*page, 8, 5)
	}
	if !reflect.DeepEqual(q, plan(40, 2, 1, 2, 3, 4, 5, 6)) {
		t.Errorf("the plan has changed: %+v", q)
	}
	if k.cpu.Left() != 0 {
		t.Errorf("%d choices are left", k.cpu.Left())
	}
}

// K3: answers are new memory.
func TestAnswersAreNew(t *testing.T) {
	k := boot(t, plan(40, 2))
	fine(t, k, 1, call.Spawn, 5)
	fine(t, k, 0, call.Map, 0, 1, 1)
	fine(t, k, 0, call.Store, 0, 1, 1)
	fine(t, k, 0, call.Offer, 0, 1, 1)
	fine(t, k, 1, call.Offer, 0, 1, 1)
	line, ids := k.Line(), k.Grants(0)
	line[0], ids[0] = 7, 7
	_ = append(line[:1], 9)
	wantLine(t, k, 0, 1)
	wantGrants(t, k, 0, 0, 1)
	v := get(t, k, 0)
	v.State.Regs[0] = 9
	if get(t, k, 0).State.Regs[0] != 0 {
		t.Error("a view is the process itself")
	}
}

// Two kernels have nothing of one another.
func TestApartKernels(t *testing.T) {
	p := plan(40, 2, 1, 1, 1)
	k, other := boot(t, p), boot(t, p)
	was := look(other)
	fine(t, k, 0, call.Map, 0, 1, 1)
	fine(t, k, 0, call.Store, 0, 8, 5)
	fine(t, k, 1, call.Spawn, 5)
	fine(t, k, 0, call.Offer, 0, 1, 0)
	fine(t, k, 0, call.Move, 1, 5)
	k.Tick()
	wantSame(t, other, was)
	if other.cpu.Left() != 3 {
		t.Error("a choice is used")
	}
}
