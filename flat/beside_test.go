package flat

import (
	"fmt"
	"maps"
	"math"
	"math/rand"
	"reflect"
	"slices"
	"testing"

	"demesne/api"
	"demesne/bootmap"
	"demesne/call"
	"demesne/kernel"
	"demesne/table"
)

// script makes steps for a world, by a look at its model, and counts how often each Op had which error.
type script struct {
	*world
	rnd   *rand.Rand
	wild  int // how often, of a hundred, processes begin rather than yield
	tame  int // likewise how often they end
	eager int // how often they offer pages, beside other calls
	count map[string]int
}

// clusters: where the pages lie, at the edges of tables.
var clusters = []int{0, 0, 0, 508, 1<<18 - 2, 1<<27 - 2, api.TopPage - 4}

func (x *script) one(of []int) int {
	return of[x.rnd.Intn(len(of))]
}

func (x *script) self() *process {
	return x.m.procs[x.m.Line()[0]]
}

func (x *script) page() int {
	return x.one(clusters) + x.rnd.Intn(4)
}

// some: a page that the process has, more often than one that it hasn't.
func (x *script) some() int {
	if l := x.self().regions; len(l) > 0 && x.rnd.Intn(8) > 0 {
		r := l[x.rnd.Intn(len(l))].Pages
		return r.From + x.rnd.Intn(min(8, r.To-r.From))
	}
	return x.page()
}

// dear: a page that the process offers, or that leads somewhere, so that it can be offered.
func (x *script) dear() int {
	var offered []int
	for _, id := range x.m.grants.Of(x.m.Line()[0]) {
		if g, _ := x.m.grants.Get(id); g.From == x.m.Line()[0] {
			offered = append(offered, g.Page)
		}
	}
	for _, l := range [][]int{offered, slices.Sorted(maps.Keys(x.self().leads))} {
		if len(l) > 0 && x.rnd.Intn(3) > 0 {
			return x.one(l)
		}
	}
	return x.some()
}

// who: a process, more often one that is there.
func (x *script) who() uint64 {
	if x.rnd.Intn(8) > 0 {
		return uint64(x.one(x.m.Line()))
	}
	return uint64(x.rnd.Intn(16))
}

// grant: more often one that is the process's, from or to it.
func (x *script) grant() uint64 {
	if ids := x.m.grants.Of(x.m.Line()[0]); len(ids) > 0 && x.rnd.Intn(8) > 0 {
		return uint64(x.one(ids))
	}
	return uint64(x.rnd.Intn(256))
}

// number: any word, more often one that is dear to reckoning.
func (x *script) number() uint64 {
	dear := []float64{0, 1, -2, math.MaxFloat64, math.Inf(1), math.NaN()}
	if n := x.rnd.Intn(12); n < len(dear) {
		return math.Float64bits(dear[n])
	}
	return x.rnd.Uint64()
}

// place: an address, and a size that divides it; often the same few, so that what was stored is loaded.
func (x *script) place() (uint64, uint64) {
	size := 1 << x.rnd.Intn(4)
	return uint64(x.some()*page + size*x.one([]int{0, 1, 2, page/size - 1})), uint64(size)
}

// ofPages: Map, Unmap, Protect.
func (x *script) ofPages() call.Words {
	at := [...]func() int{x.page, x.some, x.dear}[x.rnd.Intn(3)]()
	many := uint64(min(1+x.rnd.Intn(x.one([]int{1, 4, 600})), api.TopPage-at))
	switch n := x.rnd.Intn(10); {
	case n < 5:
		return call.Words{call.Map, uint64(at), many, uint64(x.rnd.Intn(4) | x.rnd.Intn(2))}
	case n < 7:
		return call.Words{call.Unmap, uint64(at), many}
	}
	return call.Words{call.Protect, uint64(at), many, uint64(x.rnd.Intn(4))}
}

// ofGrants: Offer, Accept, Revoke, Leave.
func (x *script) ofGrants() call.Words {
	switch n := x.rnd.Intn(20); {
	case n < 9:
		return call.Words{call.Offer, uint64(x.dear()), x.who(), uint64(x.rnd.Intn(2))}
	case n < 16:
		return call.Words{call.Accept, x.grant(), uint64(x.page())}
	case n < 18:
		return call.Words{call.Revoke, x.grant()}
	}
	return call.Words{call.Leave, x.grant()}
}

// ofStates: Handler, Return, Reckon, Move.
func (x *script) ofStates() call.Words {
	addr, _ := x.place()
	switch n := x.rnd.Intn(12); {
	case n < 3:
		return call.Words{call.Handler, addr}
	case n < 7:
		return call.Words{call.Return}
	case n < 9:
		return call.Words{call.Reckon, uint64(x.rnd.Intn(8)), uint64(x.rnd.Intn(4)), uint64(x.rnd.Intn(4)), uint64(x.rnd.Intn(4))}
	}
	return call.Words{call.Move, uint64(x.rnd.Intn(4)), x.number()}
}

// ofTurns: Spawn, Exit, Yield.
func (x *script) ofTurns() call.Words {
	switch n := x.rnd.Intn(100); {
	case n < x.wild:
		return call.Words{call.Spawn, uint64(x.one([]int{0, 1, 2, 5, 6, 9, 14, 20, 40, 1 << 20}))}
	case n < x.wild+x.tame:
		return call.Words{call.Exit}
	}
	return call.Words{call.Yield}
}

// next: words of the process whose turn it is.
func (x *script) next() call.Words {
	if x.rnd.Intn(100) < x.eager {
		return call.Words{call.Offer, uint64(x.dear()), x.who(), uint64(x.rnd.Intn(2))}
	}
	addr, size := x.place()
	switch n := x.rnd.Intn(100); {
	case n < 15:
		return x.ofPages()
	case n < 29:
		return call.Words{call.Load, addr, size}
	case n < 48:
		return call.Words{call.Store, addr, size, x.rnd.Uint64() >> (64 - 8*size)}
	case n < 68:
		return x.ofGrants()
	case n < 80:
		return x.ofStates()
	case n < 83:
		return call.Words{uint64(x.rnd.Intn(18)), x.rnd.Uint64() >> x.rnd.Intn(64), uint64(x.rnd.Intn(9)), x.rnd.Uint64() >> x.rnd.Intn(64), uint64(x.rnd.Intn(2))}
	}
	return x.ofTurns()
}

// step: a call or a tick, of both: they tell the same, and what is refused changes nothing.
func (x *script) step() {
	if x.rnd.Intn(10) == 0 {
		over, e := x.m.Tick()
		if o, f := x.k.Tick(); o != over || f != e {
			x.t.Fatalf("Tick() = %v, %d; the kernel's %v, %d", over, e, o, f)
		}
		x.count[fmt.Sprint("Tick ", over)]++
		return
	}
	w, was := x.next(), outline(x.m) // whether bytes have changed the kernel will tell
	got := x.m.Do(w)
	if want := x.k.Do(w); got != want {
		x.t.Fatalf("Do(%v): %+v; the kernel's %+v", w, got, want)
	}
	if got.Err != api.OK && !got.Up && !reflect.DeepEqual(outline(x.m), was) {
		x.t.Fatalf("Do(%v), which was refused with %d, has changed something", w, got.Err)
	}
	if got.Err == api.ErrInval {
		w[0] = 0
	}
	x.count[fmt.Sprint(w[0], " ", got.Err)]++
	if got.Up {
		x.count["Up"]++
	}
}

// cost: what a process is charged for, page by page, as the chapter says it.
func cost(p *process) int {
	frames, ninth, eighteenth, twentySeventh := 1, map[int]int{}, map[int]int{}, map[int]int{}
	for at := range p.leads {
		ninth[at/512]++
		eighteenth[at/512/512]++
		twentySeventh[at/512/512/512]++
		for _, r := range p.regions {
			if r.Pages.From <= at && at < r.Pages.To && r.Kind == own {
				frames++
			}
		}
	}
	return frames + len(ninth) + len(eighteenth) + len(twentySeventh)
}

// wantProcesses: each process is as the kernel's, and charged for what the chapter says.
func (x *script) wantProcesses() {
	x.t.Helper()
	x.wantAlike()
	for pid, p := range x.m.procs {
		v, _ := x.k.Get(pid)
		if x.m.Used(pid) != cost(p) || v.State != p.state || v.Parent != p.parent || v.Room != x.m.boxes.Room(p.box) {
			x.t.Errorf("process %d: %+v, Used %d, by its pages %d; the kernel's %+v", pid, p.state, x.m.Used(pid), cost(p), v)
		}
		if l := x.k.Machine().Regions(v.Space); !slices.Equal(l, p.regions) {
			x.t.Errorf("process %d: regions %v; the kernel's %v", pid, p.regions, l)
		}
	}
	if x.t.Failed() {
		x.t.FailNow()
	}
}

// wantBytes: each page that leads somewhere has the kernel's bytes, and no other one leads anywhere.
func (x *script) wantBytes() {
	x.t.Helper()
	m := x.k.Machine()
	for pid, p := range x.m.procs {
		v, _ := x.k.Get(pid)
		if got, want := slices.Sorted(maps.Keys(p.leads)), m.Pages(v.Space); !slices.Equal(got, want) {
			x.t.Fatalf("process %d: pages %v lead somewhere; the kernel's %v", pid, got, want)
		}
		root, _ := m.Root(v.Space)
		for at, c := range p.leads {
			frame, _, _ := table.Query(table.Purse{RAM: m.RAM, Free: m.Free, Tree: m.Tree}, root, at)
			for i, b := range c {
				if want, _ := m.RAM.Load(uint64(frame*page+i), 1); uint64(b) != want {
					x.t.Fatalf("process %d, page %d: %d at %d; the kernel's %d", pid, at, b, i, want)
				}
			}
		}
	}
}

// plans: machines of many kinds, with any choices and tags.
func plans(rnd *rand.Rand, seed, steps int) kernel.Plan {
	p := plan([]int{13, 39, 119, 399}[seed%4], []int{1, 3, 20}[seed%3])
	p.Space.Tags = []int{3, 1, 2, 4095, 16}[seed%5]
	for range []int{0, steps / 4, steps}[seed/2%3] {
		p.Choices = append(p.Choices, rnd.Intn(51)-rnd.Intn(2)*100)
	}
	switch seed / 4 % 3 {
	case 1: // the frames are here and there
		p.Space.Map = append(p.Space.Map, area(2*page, page, 2)...)
		p.Space.Map = append(p.Space.Map, area(5*page-1, 2, 9)...)
		p.Space.Kernel = api.Range{From: 8, To: 9}
	case 2: // so many that the kernel has more tables
		p.Space.Map = area(page, uint64(p.Space.Frames)*page, bootmap.Usable)
		p.Space.Frames = 1<<18 + 1
	}
	return p
}

// P19.1, P19.2: any calls and ticks, beside a kernel with as many frames and tables.
func TestBeside(t *testing.T) {
	const steps = 2000
	count := map[string]int{}
	for seed := range 48 {
		rnd := rand.New(rand.NewSource(int64(seed)))
		x := &script{world: beside(t, plans(rnd, seed, steps)), rnd: rnd, wild: []int{15, 30, 60}[seed%3], tame: []int{0, 2, 5, 12}[seed/3%4], eager: []int{0, 0, 35}[seed/4%3], count: count}
		for i := range steps {
			x.step()
			x.wantProcesses()
			if i%100 == 99 {
				x.wantBytes()
			}
		}
	}
	for _, what := range []string{"1 0", "1 6", "2 0", "2 11", "3 0", "3 5", "3 11", "4 0", "4 8", "4 9", "5 0", "5 8", "5 9", "6 0", "6 4", "6 5", "6 10", "7 0", "7 5", "7 6", "7 8", "7 10", "7 11",
		"8 0", "8 5", "9 0", "9 5", "10 0", "10 11", "11 0", "11 5", "12 0", "12 4", "12 8", "13 0", "13 10", "14 0", "15 0", "16 0", "0 13", "Tick false", "Tick true", "Up"} {
		if count[what] < 20 {
			t.Errorf("%s: %d times only", what, count[what])
		}
	}
}

// P19.1, P19.2: likewise with as many regions as there may be, and more: pages apart from one another, and many borrowed ones.
func TestBesideWithManyRegions(t *testing.T) {
	count := map[string]int{}
	for seed := range int64(24) {
		rnd := rand.New(rand.NewSource(seed))
		x := &script{world: boot(t, 399, 1000), rnd: rnd, count: count}
		x.fine(0, call.Map, 1000, 8, 1)
		for at := range uint64(8) {
			x.fine(0, call.Store, (1000+at)*page, 8, at)
		}
		x.fine(1, call.Spawn, 200)
		for id := range uint64(api.MaxGrants) {
			x.fine(id, call.Offer, 1000+id%8, 1, id%2)
		}
		x.turnOf(1)
		for range 3000 {
			x.crowd()
		}
	}
	for _, what := range []string{"1 0", "1 3", "1 4", "1 6", "2 0", "2 3", "2 4", "2 11", "3 0", "3 3", "3 4", "3 5", "3 11", "7 0", "7 3", "7 4", "7 6", "7 11", "9 0", "9 5"} {
		if count[what] < 20 {
			t.Errorf("%s: %d times only", what, count[what])
		}
	}
}

// crowd: a step that makes regions more often than it unmakes them.
func (x *script) crowd() {
	at, n := uint64(x.rnd.Intn(150)), uint64(1+x.rnd.Intn(2))
	var w call.Words
	switch x.rnd.Intn(12) {
	case 0, 1, 2:
		w = call.Words{call.Map, at, 1, uint64(x.rnd.Intn(4))}
	case 3:
		w = call.Words{call.Unmap, at, n}
	case 4, 5:
		w = call.Words{call.Protect, at, n, uint64(x.rnd.Intn(4))}
	case 6, 7, 8:
		w = call.Words{call.Accept, uint64(x.rnd.Intn(16)), 40 + at%20}
	case 9, 10:
		w = call.Words{call.Leave, uint64(x.rnd.Intn(16))}
	default:
		w = call.Words{call.Load, at * page, 1}
	}
	got, want := x.m.Do(w), x.k.Do(w)
	if got != want {
		x.t.Fatalf("Do(%v): %+v; the kernel's %+v", w, got, want)
	}
	x.count[fmt.Sprint(w[0], " ", got.Err)]++
	x.wantProcesses()
}
