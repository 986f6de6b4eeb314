package script

import (
	"fmt"
	"math"
	"math/rand"
	"slices"
	"testing"

	"demesne/api"
	"demesne/bootmap"
	"demesne/call"
	"demesne/kernel"
)

// maker makes a script by a look at a kernel that takes its steps at once, so that much of it is granted; and has the tale that this kernel tells.
type maker struct {
	k       *kernel.Kernel
	rnd     *rand.Rand
	wild    int // how often, of a hundred, processes begin rather than yield
	tame    int // likewise how often they end
	steps   []Step
	tale    Tale
	offered map[int]int    // by process: the page that it offered last
	count   map[string]int // how often each Op had which error
}

// clusters: where the pages lie, at the edges of tables.
var clusters = []int{0, 0, 0, 508, 1<<18 - 2, 1<<27 - 2, api.TopPage - 4}

func (x *maker) one(of []int) int {
	return of[x.rnd.Intn(len(of))]
}

func (x *maker) page() int {
	return x.one(clusters) + x.rnd.Intn(4)
}

// self: the space of the process whose turn it is.
func (x *maker) self() int {
	v, _ := x.k.Get(x.k.Now())
	return v.Space
}

// some: a page that the process has, more often than one that it hasn't.
func (x *maker) some() int {
	if l := x.k.Machine().Regions(x.self()); len(l) > 0 && x.rnd.Intn(8) > 0 {
		r := l[x.rnd.Intn(len(l))].Pages
		return r.From + x.rnd.Intn(min(8, r.To-r.From))
	}
	return x.page()
}

// dear: a page that leads somewhere, so that it can be offered.
func (x *maker) dear() int {
	if l := x.k.Machine().Pages(x.self()); len(l) > 0 && x.rnd.Intn(8) > 0 {
		return x.one(l)
	}
	return x.some()
}

// last: a page that the process offers, so that it can be changed ahead of its being taken.
func (x *maker) last() int {
	if at, ok := x.offered[x.k.Now()]; ok {
		return at
	}
	return x.some()
}

// who: a process, more often another one that is there.
func (x *maker) who() uint64 {
	if others := x.k.Line()[1:]; len(others) > 0 && x.rnd.Intn(8) > 0 {
		return uint64(x.one(others))
	}
	return uint64(x.rnd.Intn(16))
}

// grant: more often one that is the process's, from or to it.
func (x *maker) grant() uint64 {
	if ids := x.k.Grants(x.k.Now()); len(ids) > 0 && x.rnd.Intn(8) > 0 {
		return uint64(x.one(ids))
	}
	return uint64(x.rnd.Intn(256))
}

// place: an address, and a size that divides it; often the same few, so that what was stored is loaded.
func (x *maker) place() (uint64, uint64) {
	size := 1 << x.rnd.Intn(4)
	return uint64(x.some()*page + size*x.one([]int{0, 1, 2, page/size - 1})), uint64(size)
}

// ofPages: Map, Unmap, Protect.
func (x *maker) ofPages() Step {
	at := [...]func() int{x.page, x.some, x.dear, x.last}[x.rnd.Intn(4)]()
	many := uint64(min(1+x.rnd.Intn(x.one([]int{1, 4, 600})), api.TopPage-at))
	switch n := x.rnd.Intn(10); {
	case n < 5:
		return asks(call.Map, uint64(at), many, uint64(x.rnd.Intn(4)|x.rnd.Intn(2)))
	case n < 7:
		return asks(call.Unmap, uint64(at), many)
	}
	return asks(call.Protect, uint64(at), many, uint64(x.rnd.Intn(4)))
}

// ofGrants: Offer, Accept, Revoke, Leave.
func (x *maker) ofGrants() Step {
	switch n := x.rnd.Intn(20); {
	case n < 9:
		return asks(call.Offer, uint64(x.dear()), x.who(), uint64(x.rnd.Intn(2)))
	case n < 16:
		return asks(call.Accept, x.grant(), uint64(x.page()))
	case n < 18:
		return asks(call.Revoke, x.grant())
	}
	return asks(call.Leave, x.grant())
}

// ofStates: Handler, Return, Reckon, Move.
func (x *maker) ofStates() Step {
	addr, _ := x.place()
	switch n := x.rnd.Intn(12); {
	case n < 3:
		return asks(call.Handler, addr)
	case n < 7:
		return asks(call.Return)
	case n < 9:
		return asks(call.Reckon, uint64(x.rnd.Intn(8)), uint64(x.rnd.Intn(4)), uint64(x.rnd.Intn(4)), uint64(x.rnd.Intn(4)))
	}
	return asks(call.Move, uint64(x.rnd.Intn(4)), math.Float64bits(float64(x.rnd.Intn(5)-2)))
}

// ofTurns: Spawn, Exit, Yield.
func (x *maker) ofTurns() Step {
	switch n := x.rnd.Intn(100); {
	case n < x.wild:
		return asks(call.Spawn, uint64(x.one([]int{0, 1, 1, 2, 5, 6, 7, 9, 14, 20, 40, 1 << 20})))
	case n < x.wild+x.tame:
		return asks(call.Exit)
	}
	return asks(call.Yield)
}

// garbled: words of which most are no call's.
func garbled(rnd *rand.Rand) Step {
	s := Step{W: call.Words{uint64(rnd.Intn(18)), rnd.Uint64() >> rnd.Intn(64), uint64(rnd.Intn(9)), rnd.Uint64() >> rnd.Intn(64)}}
	if rnd.Intn(8) == 0 {
		s.W[rnd.Intn(6)] = rnd.Uint64()
	}
	return s
}

// next: a step, as the kernel is now.
func (x *maker) next() Step {
	addr, size := x.place()
	switch n := x.rnd.Intn(110); {
	case n < 15:
		return x.ofPages()
	case n < 32:
		return asks(call.Load, addr, size)
	case n < 50:
		return asks(call.Store, addr, size, x.rnd.Uint64()>>(64-8*size))
	case n < 70:
		return x.ofGrants()
	case n < 80:
		return x.ofStates()
	case n < 83:
		return garbled(x.rnd)
	case n < 100:
		return x.ofTurns()
	}
	return Step{Tick: true, W: call.Words{uint64(x.rnd.Intn(18))}}
}

// step: one step more, and what came of it.
func (x *maker) step() {
	s := x.next()
	if s.Tick {
		over, _ := x.k.Tick()
		x.count[fmt.Sprint("Tick ", over)]++
	} else {
		r := x.k.Do(s.W)
		x.tale.Results = append(x.tale.Results, r)
		op := s.W[0]
		if r.Err == api.ErrInval {
			op = 0
		}
		x.count[fmt.Sprint(op, " ", r.Err)]++
		if r.Up {
			x.count["Up"]++
		}
		if s.W[0] == call.Offer && r.Err == api.OK {
			x.offered[r.Pid] = int(s.W[1])
		}
	}
	x.steps, x.tale.Turns = append(x.steps, s), append(x.tale.Turns, x.k.Now())
}

// makeScript: so many steps.
func makeScript(t *testing.T, p kernel.Plan, seed, steps int, count map[string]int) *maker {
	t.Helper()
	k, e := kernel.Boot(p)
	if e != api.OK {
		t.Fatalf("Boot: %d", e)
	}
	x := &maker{k: k, rnd: rand.New(rand.NewSource(int64(seed))), wild: []int{15, 30, 60}[seed%3], tame: []int{0, 2, 5, 12}[seed/3%4], offered: map[int]int{}, count: count}
	for range steps {
		x.step()
	}
	return x
}

// anyChoices: numbers on both sides of 0, of which each stands for something.
func anyChoices(rnd *rand.Rand, many int) []int {
	var l []int
	for range many {
		l = append(l, rnd.Intn(51)-rnd.Intn(2)*102)
	}
	return l
}

// anyTags: how many tags there may be: so few that they are used again and again, and so many that they never are.
var anyTags = []int{3, 1, 2, 4095, 16}

// goodPlan: machines of many kinds, with any choices, tags and turns.
func goodPlan(seed, steps int) kernel.Plan {
	p := plan([]int{14, 40, 120, 400}[seed%4], []int{1, 3, 20, 1000}[seed/2%4], anyChoices(rand.New(rand.NewSource(int64(seed))), []int{0, steps / 4, steps}[seed/2%3])...)
	p.Space.Tags = anyTags[seed%5]
	switch seed / 4 % 3 {
	case 1: // the frames are here and there
		p.Space.Map = append(p.Space.Map, area(2*page, page, 2)...)
		p.Space.Map = append(p.Space.Map, area(5*page-1, 2, 9)...)
		p.Space.Kernel = api.Range{From: 8, To: 9}
	case 2: // so many that the kernel has more tables
		p.Space.Map = area(page, uint64(p.Space.Frames)*page, bootmap.Usable)
		p.Space.Frames = 1<<18 + 1
	}
	return p
}

// often: what must have been told often, for any of these tests to say much.
var often = []string{"1 0", "1 6", "2 0", "2 11", "3 0", "3 5", "3 11", "4 0", "4 8", "4 9", "5 0", "5 8", "5 9", "6 0", "6 5", "6 10", "7 0", "7 5", "7 6", "7 8", "7 10", "7 11",
	"8 0", "8 5", "9 0", "9 5", "10 0", "10 11", "11 0", "11 5", "12 0", "12 4", "12 8", "13 0", "13 10", "14 0", "15 0", "16 0", "0 13", "Tick false", "Tick true", "Up"}

func wantOften(t *testing.T, count map[string]int, least int) {
	t.Helper()
	for _, what := range often {
		if count[what] < least {
			t.Errorf("%s: %d times only", what, count[what])
		}
	}
}

// P21.2: any scripts, on machines of many kinds: nothing is wrong.
func TestJudgeAny(t *testing.T) {
	const steps = 400
	count := map[string]int{}
	for seed := range 60 {
		p := goodPlan(seed, steps)
		x := makeScript(t, p, seed, steps, count)
		wantFound(t, fmt.Sprint("script ", seed), Judge(p, x.steps), fine)
	}
	wantOften(t, count, 5)
}

// wantParts: the parts of all processes together are the Results.
func wantParts(t *testing.T, x Tale) {
	t.Helper()
	var parts [api.MaxProcs][]kernel.Result
	for pid := range parts {
		parts[pid] = x.Of(pid)
	}
	for _, r := range x.Results {
		if l := parts[r.Pid]; len(l) == 0 || l[0] != r {
			t.Fatalf("of process %d: %+v; want %+v first", r.Pid, l, r)
		}
		parts[r.Pid] = parts[r.Pid][1:]
	}
	for pid, l := range parts {
		if len(l) > 0 {
			t.Errorf("process %d was never told %+v", pid, l)
		}
	}
	for _, pid := range []int{-1, api.MaxProcs} {
		if l := x.Of(pid); len(l) > 0 {
			t.Errorf("Of(%d): %+v", pid, l)
		}
	}
}

// P21.1, P21.3: the tale is what a kernel tells, step by step; the same again; and with other choices and tags the same.
func TestPlayAny(t *testing.T) {
	const steps = 2000
	count := map[string]int{}
	for seed := range 36 {
		p := goodPlan(seed, steps)
		x := makeScript(t, p, seed, steps, count)
		for range 2 {
			got := Play(p, x.steps)
			wantSameTale(t, got, x.tale)
			wantParts(t, got)
		}
		for other := range 5 {
			p.Space.Tags = anyTags[other]
			p.Choices = anyChoices(x.rnd, []int{0, steps / 2, steps, steps, steps}[other])
			wantSameTale(t, Play(p, x.steps), x.tale)
			if unlike(x.k, p, x.steps) {
				count["other lines"]++
			}
		}
		if t.Failed() {
			t.FailNow()
		}
	}
	if count["other lines"] < 60 {
		t.Errorf("other choices keep other lines %d times only", count["other lines"])
	}
	wantOften(t, count, 20)
}

// unlike: does a kernel of this plan have other lines than that one, behind the same steps? Else its choices and tags have nothing to hide.
func unlike(k *kernel.Kernel, p kernel.Plan, steps []Step) bool {
	other, _ := kernel.Boot(p)
	for _, s := range steps {
		if s.Tick {
			other.Tick()
		} else {
			other.Do(s.W)
		}
	}
	return !slices.Equal(k.Machine().TLB.Lines(), other.Machine().TLB.Lines())
}

// P21.3: by hand: two spaces that share one tag, lines that are evicted, and a line that is kept ahead of Unmap, Protect and Revoke.
func TestChoicesDontShow(t *testing.T) {
	steps := []Step{
		asks(call.Map, 0, 2, 1), asks(call.Store, 8, 8, 5), asks(call.Load, 8, 8), asks(call.Spawn, 12), asks(call.Offer, 0, 1, 1), asks(call.Yield),
		asks(call.Load, 8, 8), asks(call.Accept, 0, 0), asks(call.Store, 8, 8, 6), asks(call.Yield),
		asks(call.Load, 8, 8), asks(call.Revoke, 0), asks(call.Store, 8, 8, 7), asks(call.Yield),
		asks(call.Load, 8, 8), asks(call.Map, 0, 1, 1), asks(call.Load, 8, 8), asks(call.Store, 8, 8, 9), asks(call.Yield),
		asks(call.Load, 8, 8), asks(call.Protect, 0, 1, 0), asks(call.Store, 8, 8, 1), asks(call.Load, 8, 8), asks(call.Unmap, 0, 1), asks(call.Load, 8, 8), asks(call.Yield),
		asks(call.Load, 8, 8),
	}
	fault := func(pid, code int) kernel.Result {
		return kernel.Result{Pid: pid, Err: api.ErrFault, Fault: api.Fault{Addr: 8, Code: code}}
	}
	results := []kernel.Result{
		{}, {}, {X: 5}, {X: 1}, {}, {},
		fault(1, 4), {Pid: 1}, {Pid: 1}, {Pid: 1},
		{X: 6}, {}, {}, {},
		fault(1, 4), {Pid: 1}, {Pid: 1}, {Pid: 1}, {Pid: 1},
		{X: 7}, {}, fault(0, 7), {X: 7}, {}, fault(0, 4), {},
		{Pid: 1, X: 9},
	}
	turns := []int{0, 0, 0, 0, 0, 1, 1, 1, 1, 0, 0, 0, 0, 1, 1, 1, 1, 1, 0, 0, 0, 0, 0, 0, 0, 1, 1}
	for _, tags := range []int{1, 2, 4095} {
		for choice := -51; choice < 51; choice++ {
			p := plan(40, 9)
			p.Space.Tags = tags
			for range len(steps) {
				p.Choices = append(p.Choices, choice)
			}
			wantTale(t, Play(p, steps), results, turns)
			wantFound(t, fmt.Sprint("choice ", choice), Judge(p, steps), fine)
		}
	}
}

// P21.4: the tale of each beginning is the beginning of the tale.
func TestBeginnings(t *testing.T) {
	const steps = 200
	for seed := range 12 {
		p := goodPlan(seed, steps)
		x := makeScript(t, p, seed, steps, map[string]int{})
		whole, calls := Play(p, x.steps), 0
		for n := range steps + 1 {
			wantTale(t, Play(p, x.steps[:n]), whole.Results[:calls], whole.Turns[:n])
			if n < steps && !x.steps[n].Tick {
				calls++
			}
		}
		if calls != len(whole.Results) || len(whole.Turns) != steps {
			t.Errorf("%d calls, %d results, %d turns", calls, len(whole.Results), len(whole.Turns))
		}
	}
	for _, b := range allBroken() {
		whole := Play(b.p, mixed())
		for n := range len(mixed()) + 1 {
			got := Play(b.p, mixed()[:n])
			wantTale(t, got, whole.Results[:len(got.Results)], whole.Turns[:n])
		}
	}
}

// anyPlan: a plan in which anything may be wrong, by a look at none of the layers.
func anyPlan(rnd *rand.Rand) kernel.Plan {
	one := func(of ...int) int {
		return of[rnd.Intn(len(of))]
	}
	p := plan(one(1, 2, 3, 4, 5, 9, 30, 60), one(1, 1, 2, 5, 1000, 1001, 0, -1), anyChoices(rnd, rnd.Intn(9))...)
	p.Space.Tags = one(1, 1, 2, 2, 4095, 4095, 4096, 0)
	if rnd.Intn(4) == 0 {
		p.Space.Kernel = api.Range{From: one(0, 1, 5, -1), To: one(0, 5, 60, math.MaxInt)}
	}
	if rnd.Intn(4) == 0 {
		p.Space.Frames = one(0, 20, math.MinInt, api.MaxFrames+1)
	}
	for range rnd.Intn(3) {
		p.Space.Map = append(p.Space.Map, area(uint64(rnd.Intn(90*page)), uint64(rnd.Intn(9*page)), byte(rnd.Intn(3)))...)
	}
	if rnd.Intn(6) == 0 {
		p.Space.Map = p.Space.Map[:rnd.Intn(len(p.Space.Map))]
	}
	return p
}

// P1, P21.1, P21.2: whatever the plan and the words: Judge has nothing to say but an error of Boot, and Play has as much to say as there are steps.
func TestAnything(t *testing.T) {
	rnd, count := rand.New(rand.NewSource(1)), map[api.Errno]int{}
	for range 3000 {
		p := anyPlan(rnd)
		var steps []Step
		calls := 0
		for range rnd.Intn(12) {
			s := garbled(rnd)
			s.Tick = rnd.Intn(4) == 0
			if !s.Tick {
				calls++
			}
			steps = append(steps, s)
		}
		_, e := kernel.Boot(p)
		count[e]++
		wantFound(t, fmt.Sprintf("%+v", p), Judge(p, steps), Found{At: -1, Why: e})
		x := Play(p, steps)
		if len(x.Results) != calls || len(x.Turns) != len(steps) {
			t.Errorf("%d results, %d turns of %v", len(x.Results), len(x.Turns), steps)
		}
		for _, r := range x.Results {
			if (r.Err == api.ErrNoBoot) != (e != api.OK) {
				t.Errorf("Boot: %d; a result: %+v", e, r)
			}
		}
	}
	for _, e := range []api.Errno{api.OK, api.ErrArg, api.ErrEnd, api.ErrNoMem, api.ErrQuota} {
		if count[e] < 50 {
			t.Errorf("Boot: %d: %d times only", e, count[e])
		}
	}
}
