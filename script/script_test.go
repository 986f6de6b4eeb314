package script

import (
	"math"
	"reflect"
	"slices"
	"testing"

	"demesne/api"
	"demesne/bootmap"
	"demesne/call"
	"demesne/kernel"
	"demesne/space"
)

const page = api.PageSize

// area: one entry of a boot map.
func area(from, many uint64, kind byte) []byte {
	s := make([]byte, bootmap.Size)
	for i := range 8 {
		s[i], s[8+i] = byte(from>>(8*i)), byte(many>>(8*i))
	}
	s[16] = kind
	return s
}

// plan: a machine of so many frames, the first the kernel's; its tables have two more.
func plan(frames, quantum int, choices ...int) kernel.Plan {
	s := space.Plan{Frames: frames, Kernel: api.Range{From: 0, To: 1}, Tags: 3, Map: area(0, uint64(frames)*page, bootmap.Usable)}
	return kernel.Plan{Space: s, Quantum: quantum, Choices: choices}
}

// asks: a step that is a call.
func asks(w ...uint64) Step {
	var s Step
	copy(s.W[:], w)
	return s
}

var tick = Step{Tick: true}

// wantTale: K1: a list that is nil and an empty one are the same.
func wantTale(t *testing.T, got Tale, results []kernel.Result, turns []int) {
	t.Helper()
	if !slices.Equal(got.Results, results) {
		t.Errorf("Results: %+v; want %+v", got.Results, results)
	}
	if !slices.Equal(got.Turns, turns) {
		t.Errorf("Turns: %v; want %v", got.Turns, turns)
	}
}

// wantSameTale: likewise of two tales.
func wantSameTale(t *testing.T, got, want Tale) {
	t.Helper()
	wantTale(t, got, want.Results, want.Turns)
}

// broken is a plan that doesn't boot, and why.
type broken struct {
	what string
	p    kernel.Plan
	why  api.Errno
}

// changed: a good plan, but for one thing.
func changed(f func(p *kernel.Plan)) kernel.Plan {
	p := plan(40, 2, 1, 2)
	f(&p)
	return p
}

// shredded: as many free ranges as a map can say, and, as the kernel has a frame in the midst of one of them, one more.
func shredded() kernel.Plan {
	p := plan(200, 2)
	for i := range uint64(63) {
		p.Space.Map = append(p.Space.Map, area((3*i+1)*page, page, 2)...)
	}
	p.Space.Kernel = api.Range{From: 195, To: 196}
	return p
}

// allBroken: plans with each error that Boot has.
func allBroken() []broken {
	return []broken{
		{"the zero Plan", kernel.Plan{}, api.ErrArg},
		{"no frames", changed(func(p *kernel.Plan) { p.Space.Frames = 0 }), api.ErrArg},
		{"too many frames", changed(func(p *kernel.Plan) { p.Space.Frames = api.MaxFrames + 1 }), api.ErrArg},
		{"frames below 0", changed(func(p *kernel.Plan) { p.Space.Frames = math.MinInt }), api.ErrArg},
		{"a kernel that isn't there", changed(func(p *kernel.Plan) { p.Space.Kernel.To = 41 }), api.ErrArg},
		{"too long a map", changed(func(p *kernel.Plan) { p.Space.Map = make([]byte, 65*bootmap.Size) }), api.ErrBig},
		{"bytes are wanting", changed(func(p *kernel.Plan) { p.Space.Map = p.Space.Map[1:] }), api.ErrEnd},
		{"an area without an end", changed(func(p *kernel.Plan) { p.Space.Map = area(1, math.MaxUint64, 1) }), api.ErrForm},
		{"no frame is left", changed(func(p *kernel.Plan) { p.Space.Map = nil }), api.ErrNoMem},
		{"no tags", changed(func(p *kernel.Plan) { p.Space.Tags = 0 }), api.ErrArg},
		{"too many tags", changed(func(p *kernel.Plan) { p.Space.Tags = 4096 }), api.ErrArg},
		{"too many ranges", shredded(), api.ErrBig},
		{"no room for the kernel's tables", plan(2, 2), api.ErrQuota},
		{"no turn", plan(40, 0), api.ErrArg},
		{"too long a turn", plan(40, 1001), api.ErrArg},
		{"no room for process 0", plan(3, 2), api.ErrQuota},
		{"no turn, and no room for process 0", plan(3, 0), api.ErrArg},
	}
}

// mixed: a script with calls, words that are no call's, and ticks.
func mixed() []Step {
	return []Step{
		asks(call.Spawn, 10),
		asks(call.Map, 0, 2, 1),
		asks(call.Store, 8, 8, 9),
		tick,
		asks(call.Load, 8, 8),
		asks(99),
		tick,
		asks(call.Load, 8, 8),
		asks(call.Yield),
		asks(call.Exit),
		asks(call.Exit),
		tick,
		asks(call.Load, 8, 4),
	}
}

// mixedTale: what it comes to, with turns of two ticks.
func mixedTale() Tale {
	return Tale{
		Results: []kernel.Result{
			{X: 1},
			{},
			{},
			{X: 9},
			{Err: api.ErrInval},
			{Pid: 1, Err: api.ErrFault, Fault: api.Fault{Addr: 8, Code: 4}},
			{Pid: 1},
			{Err: api.ErrPerm},
			{Err: api.ErrPerm},
			{X: 9},
		},
		Turns: []int{0, 0, 0, 0, 0, 0, 1, 1, 0, 0, 0, 0, 0},
	}
}

// P21.1: calls and ticks, one behind the other: the results of the calls alone, and whose turn it is behind each step.
func TestPlay(t *testing.T) {
	wantSameTale(t, Play(plan(40, 2), mixed()), mixedTale())
}

// P21.1: no steps, on a machine and on none.
func TestPlayNothing(t *testing.T) {
	for _, p := range []kernel.Plan{plan(40, 2, 1), {}} {
		for _, steps := range [][]Step{nil, {}} {
			wantTale(t, Play(p, steps), nil, nil)
		}
	}
}

// P21.1: ticks alone: nobody is told anything, and it is always the turn of the one that is there.
func TestPlayTicksAlone(t *testing.T) {
	wantTale(t, Play(plan(40, 1), []Step{tick, tick, tick}), nil, []int{0, 0, 0})
}

// P21.1: ticks end a turn when as many as the Quantum went by; a call ahead of them doesn't.
func TestPlayTurns(t *testing.T) {
	steps := []Step{asks(call.Spawn, 5), asks(call.Spawn, 5), tick, tick, tick, tick, tick, tick, tick}
	for _, c := range []struct {
		quantum int
		want    []int
	}{
		{1, []int{0, 0, 1, 2, 0, 1, 2, 0, 1}},
		{2, []int{0, 0, 0, 1, 1, 2, 2, 0, 0}},
		{3, []int{0, 0, 0, 0, 1, 1, 1, 2, 2}},
		{1000, []int{0, 0, 0, 0, 0, 0, 0, 0, 0}},
	} {
		wantTale(t, Play(plan(40, c.quantum), steps), []kernel.Result{{X: 1}, {X: 2}}, c.want)
	}
}

// P21.1: calls alone: turns change by Yield and Exit.
func TestPlayCallsAlone(t *testing.T) {
	steps := []Step{asks(call.Spawn, 5), asks(call.Yield), asks(call.Spawn, 1), asks(call.Yield), asks(call.Yield), asks(call.Exit), asks(call.Exit)}
	results := []kernel.Result{{X: 1}, {}, {Pid: 1, X: 2}, {Pid: 1}, {}, {Pid: 2}, {Pid: 1}}
	wantTale(t, Play(plan(40, 1), steps), results, []int{0, 1, 1, 0, 2, 1, 0})
}

// P21.1: the words of a tick are nobody's.
func TestPlayTickWithWords(t *testing.T) {
	steps := []Step{{Tick: true, W: call.Words{call.Spawn, 5}}, {Tick: true, W: call.Words{99}}, asks(call.Spawn, 6)}
	wantTale(t, Play(plan(40, 1), steps), []kernel.Result{{X: 1}}, []int{0, 0, 0})
}

// P21.1: words that are no call's are told so, and change nothing; so are calls that are refused.
func TestPlayNoCalls(t *testing.T) {
	bad := []Step{asks(), asks(17), asks(math.MaxUint64), asks(call.Yield, 1), asks(call.Load, 4, 8), asks(call.Map, 0, 0, 1), asks(call.Exit, 0, 0, 0, 0, 1)}
	var steps []Step
	var results []kernel.Result
	for _, b := range bad {
		steps = append(steps, b, asks(call.Move, 0, 5))
		results = append(results, kernel.Result{Err: api.ErrInval}, kernel.Result{})
	}
	wantTale(t, Play(plan(40, 1), steps), results, make([]int, len(steps)))
}

// P21.1, example 1 of the chapter: on a machine that doesn't boot each call is told so, and it is nobody's turn but 0's.
func TestPlayUnbooted(t *testing.T) {
	for _, b := range allBroken() {
		if k, e := kernel.Boot(b.p); k != nil || e != b.why {
			t.Errorf("%s: Boot: %v, %d; want %d", b.what, k, e, b.why)
		}
		results := make([]kernel.Result, len(mixedTale().Results))
		for i := range results {
			results[i].Err = api.ErrNoBoot
		}
		wantTale(t, Play(b.p, mixed()), results, make([]int, len(mixed())))
		wantTale(t, Play(b.p, []Step{tick, tick}), nil, []int{0, 0})
	}
}

// P21.1: Of has what one process was told, in order; nothing of a number that nobody has.
func TestOf(t *testing.T) {
	tale := mixedTale()
	for _, c := range []struct {
		pid  int
		want []kernel.Result
	}{
		{0, []kernel.Result{{X: 1}, {}, {}, {X: 9}, {Err: api.ErrInval}, {Err: api.ErrPerm}, {Err: api.ErrPerm}, {X: 9}}},
		{1, []kernel.Result{{Pid: 1, Err: api.ErrFault, Fault: api.Fault{Addr: 8, Code: 4}}, {Pid: 1}}},
		{2, nil}, {15, nil}, {16, nil}, {-1, nil}, {math.MinInt, nil}, {math.MaxInt, nil},
	} {
		if got := tale.Of(c.pid); !slices.Equal(got, c.want) {
			t.Errorf("Of(%d): %+v; want %+v", c.pid, got, c.want)
		}
	}
}

// P21.1: of a machine that didn't boot, all is process 0's; of a tale without results nothing is anybody's.
func TestOfUnbooted(t *testing.T) {
	tale := Play(kernel.Plan{}, mixed())
	if got := tale.Of(0); len(got) != 10 || !slices.Equal(got, tale.Results) {
		t.Errorf("Of(0): %+v", got)
	}
	for _, tale := range []Tale{{}, {Turns: []int{0, 1}}, {Results: []kernel.Result{}}, Play(plan(40, 2), []Step{tick})} {
		for pid := -1; pid <= api.MaxProcs; pid++ {
			if got := tale.Of(pid); len(got) != 0 {
				t.Errorf("%+v: Of(%d): %+v", tale, pid, got)
			}
		}
	}
}

// P21.1: a tale may be anybody's, with any numbers.
func TestOfAnyTale(t *testing.T) {
	tale := Tale{Results: []kernel.Result{{Pid: -7, X: 1}, {Pid: 99, X: 2}, {Pid: -7, X: 3}, {Pid: 0, X: 4}}}
	for pid, want := range map[int][]uint64{-7: {1, 3}, 99: {2}, 0: {4}, 7: nil} {
		var got []uint64
		for _, r := range tale.Of(pid) {
			got = append(got, r.X)
		}
		if !slices.Equal(got, want) {
			t.Errorf("Of(%d): %v; want %v", pid, got, want)
		}
	}
}

// P2, K3: what was handed in isn't changed, nor the room behind it.
func TestChangesNothing(t *testing.T) {
	p, steps := plan(40, 2, 1, 2, 29, 1, 2), mixed()
	p.Choices = append(make([]int, 0, 99), p.Choices...)
	p.Space.Map = append(make([]byte, 0, 99), p.Space.Map...)
	steps = append(make([]Step, 0, 99), steps...)
	Play(p, steps)
	Judge(p, steps)
	if !reflect.DeepEqual(p, plan(40, 2, 1, 2, 29, 1, 2)) || !slices.Equal(steps, mixed()) {
		t.Errorf("changed: %+v, %v", p, steps)
	}
	for _, c := range p.Choices[len(p.Choices):99] {
		if c != 0 {
			t.Error("the room behind the choices has changed")
		}
	}
	for _, b := range p.Space.Map[len(p.Space.Map):99] {
		if b != 0 {
			t.Error("the room behind the map has changed")
		}
	}
	for _, s := range steps[len(steps):99] {
		if s != (Step{}) {
			t.Error("the room behind the steps has changed")
		}
	}
}

// P2, K3: answers are new memory.
func TestAnswersAreNew(t *testing.T) {
	p, steps := plan(40, 2), mixed()
	a, b := Play(p, steps), Play(p, steps)
	of := a.Of(0)
	clear(a.Turns)
	for i := range of {
		of[i].X = 77
	}
	_ = append(of[:1], kernel.Result{X: 78})
	wantTale(t, a, mixedTale().Results, make([]int, len(steps)))
	if !slices.Equal(a.Of(1), mixedTale().Of(1)) {
		t.Errorf("Of(1): %+v", a.Of(1))
	}
	clear(a.Results)
	clear(p.Space.Map)
	clear(steps)
	wantSameTale(t, b, mixedTale())
}
