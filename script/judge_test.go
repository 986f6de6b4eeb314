package script

import (
	"slices"
	"testing"

	"demesne/api"
	"demesne/audit"
	"demesne/bootmap"
	"demesne/call"
	"demesne/kernel"
	"demesne/pte"
	"demesne/space"
	"demesne/table"
	"demesne/tlb"
)

var fine = Found{At: -1, Why: api.OK}

func wantFound(t *testing.T, what string, got, want Found) {
	t.Helper()
	if got != want {
		t.Errorf("%s: %+v; want %+v", what, got, want)
	}
}

// P21.2, example 1 of the chapter: nothing is wrong with a good plan, with steps and without.
func TestJudge(t *testing.T) {
	for _, steps := range [][]Step{nil, {}, {tick}, {asks(99)}, mixed()} {
		wantFound(t, "a good plan", Judge(plan(40, 2, 1, 2, 29), steps), fine)
	}
}

// P21.2: a plan that doesn't boot: that error, and no step.
func TestJudgeUnbooted(t *testing.T) {
	for _, b := range allBroken() {
		for _, steps := range [][]Step{nil, {tick}, mixed()} {
			wantFound(t, b.what, Judge(b.p, steps), Found{At: -1, Why: b.why})
		}
	}
}

// begin: a kernel and its model, as Judge has them.
func begin(t *testing.T, p kernel.Plan) trial {
	t.Helper()
	k, e := kernel.Boot(p)
	if e != api.OK {
		t.Fatalf("Boot: %d", e)
	}
	return trial{kernel: k, model: modelOf(k, p.Quantum)}
}

// well: steps at which nothing is wrong.
func (x trial) well(t *testing.T, steps ...Step) {
	t.Helper()
	if got := x.over(steps); got != fine {
		t.Fatalf("wrong at the beginning: %+v", got)
	}
}

// idle: a step at which a process is told the same, whatever else is so.
var idle = asks(call.Move, 0, 5)

// P21.2: ErrForm, at the first call of which a process is told otherwise.
func TestToldOtherwise(t *testing.T) {
	x := begin(t, plan(40, 2))
	x.well(t, idle, asks(call.Map, 0, 2, 1))
	x.kernel.Do(call.Words{call.Map, 5, 1, 1}) // of which the model knows nothing
	wantFound(t, "a page more", x.over([]Step{idle, tick, asks(call.Store, 8, 8, 7), asks(call.Store, 5*page, 8, 7), idle}), Found{At: 3, Why: api.ErrForm})
	y := begin(t, plan(40, 2))
	y.well(t, asks(call.Map, 0, 2, 1), asks(call.Store, 8, 8, 7))
	y.model.Do(call.Words{call.Store, 8, 8, 9})
	wantFound(t, "another number", y.over([]Step{asks(call.Load, 16, 8), asks(call.Load, 8, 8)}), Found{At: 1, Why: api.ErrForm})
	z := begin(t, plan(40, 2))
	z.kernel.Do(call.Words{call.Handler, page})
	wantFound(t, "another way with faults", z.over([]Step{idle, idle, asks(call.Load, 0, 8), idle}), Found{At: 2, Why: api.ErrForm})
}

// P21.2: ErrForm, at the first tick that is told otherwise, though it is the same process's turn.
func TestTicksOtherwise(t *testing.T) {
	x := begin(t, plan(40, 3))
	x.model = modelOf(x.kernel, 2)
	wantFound(t, "a shorter turn", x.over([]Step{tick, idle, tick, tick}), Found{At: 2, Why: api.ErrForm})
	x = begin(t, plan(40, 3))
	x.model = modelOf(x.kernel, 2)
	worded := Step{Tick: true, W: idle.W}
	wantFound(t, "likewise, with words that are nobody's", x.over([]Step{worded, worded, worded}), Found{At: 1, Why: api.ErrForm})
}

// P21.2: ErrForm, when others wait, though all are told the same.
func TestLinesOtherwise(t *testing.T) {
	x := begin(t, plan(40, 2))
	x.well(t, idle, tick)
	x.kernel.Do(call.Words{call.Spawn, 5})
	wantFound(t, "a process more", x.over([]Step{idle}), Found{At: 0, Why: api.ErrForm})
	y := begin(t, plan(40, 2))
	y.well(t, asks(call.Spawn, 5))
	y.model.Do(call.Words{call.Yield})
	wantFound(t, "another one's turn", y.over([]Step{tick}), Found{At: 0, Why: api.ErrForm})
	z := begin(t, plan(40, 1))
	z.well(t, asks(call.Spawn, 5), asks(call.Spawn, 5))
	for _, w := range []call.Words{{call.Yield}, {call.Exit}, {call.Yield}, {call.Spawn, 5}} {
		z.model.Do(w) // process 1 ends, and another one has its number, behind 2
	}
	if l := z.model.Line(); !slices.Equal(l, []int{0, 2, 1}) {
		t.Errorf("the model's line: %v", l)
	}
	wantFound(t, "another order", z.over([]Step{idle}), Found{At: 0, Why: api.ErrForm})
}

// entryAt: where the entry for a page of a space stands, in its table of level 1.
func entryAt(t *testing.T, m *space.Machine, id, at int) uint64 {
	t.Helper()
	frame, ok := m.Root(id)
	for _, shift := range []int{27, 18, 9} {
		x, e := m.RAM.Load(uint64(frame)*page+uint64(at>>shift&511)*8, 8)
		if e != api.OK || !ok {
			t.Fatalf("page %d of space %d: %d", at, id, e)
		}
		frame = pte.Unpack(x).Frame
	}
	return uint64(frame)*page + uint64(at&511)*8
}

// leads: where a page of a space leads to.
func leads(m *space.Machine, id, at int) int {
	root, _ := m.Root(id)
	frame, _, _ := table.Query(table.Purse{RAM: m.RAM, Free: m.Free, Tree: m.Tree}, root, at)
	return frame
}

// P21.2: what audit.Check says: each of its errors, of a machine whose parts are changed from outside.
func TestAudited(t *testing.T) {
	for _, c := range []struct {
		why    api.Errno
		change func(m *space.Machine)
	}{
		{api.ErrThere, func(m *space.Machine) { m.Free.Give(leads(m, 0, 0)) }},
		{api.ErrNone, func(m *space.Machine) { m.Free.Take(0) }},
		{api.ErrQuota, func(m *space.Machine) { m.Tree.Charge(1, 1) }},
	} {
		x := begin(t, plan(40, 2))
		x.well(t, asks(call.Map, 0, 2, 1), asks(call.Store, 8, 8, 7), tick)
		c.change(x.kernel.Machine())
		if e := audit.Check(x.kernel.Machine()); e != c.why {
			t.Errorf("Check: %d; want %d", e, c.why)
		}
		wantFound(t, "a changed machine", x.over([]Step{idle, idle}), Found{At: 0, Why: c.why})
		wantFound(t, "a changed machine, a tick", x.over([]Step{tick}), Found{At: 0, Why: c.why})
		wantFound(t, "no steps", x.over(nil), fine)
	}
}

// P21.2: a page that leads to another page's frame is wrong only when it is the process's: at that step.
func TestAuditedLater(t *testing.T) {
	x := begin(t, plan(40, 2))
	x.well(t, asks(call.Map, 0, 2, 1), asks(call.Store, 8, 8, 7))
	m := x.kernel.Machine()
	entry, _ := m.RAM.Load(entryAt(t, m, 0, 0), 8)
	m.RAM.Store(entryAt(t, m, 0, 9), 8, entry)
	wantFound(t, "two pages, one frame", x.over([]Step{idle, tick, asks(99), asks(call.Map, 9, 1, 1), idle}), Found{At: 3, Why: api.ErrThere})
}

// P21.2: ErrOver, when a line is stale.
func TestStaleLine(t *testing.T) {
	x := begin(t, plan(40, 2))
	x.well(t, asks(call.Map, 0, 2, 1), asks(call.Store, 8, 8, 7))
	m := x.kernel.Machine()
	m.TLB.Fill(0, tlb.Line{Valid: true, Tag: 1, Page: 1, Frame: leads(m, 0, 0)})
	for _, s := range []Step{idle, tick, asks(99)} {
		wantFound(t, "a line that isn't so", x.over([]Step{s}), Found{At: 0, Why: api.ErrOver})
	}
}

// intruder: process 1 may write to a table of process 0, of which a line is kept; the entry that it could change.
func intruder(t *testing.T) (trial, pte.Entry) {
	t.Helper()
	x := begin(t, plan(40, 50, 1))
	x.well(t, asks(call.Map, 0, 2, 1), asks(call.Store, 8, 8, 7), asks(call.Spawn, 9), asks(call.Offer, 0, 1, 1), asks(call.Yield), asks(call.Accept, 0, 9))
	m := x.kernel.Machine()
	lines := m.TLB.Lines()
	if len(lines) != 1 || lines[0].Page != 0 {
		t.Fatalf("lines: %+v", lines)
	}
	at := entryAt(t, m, 1, 9)
	n, _ := m.RAM.Load(at, 8)
	entry := pte.Unpack(n)
	entry.Frame = int(entryAt(t, m, 0, 0) / page)
	n, _ = pte.Pack(entry)
	m.RAM.Store(at, 8, n) // a borrowed page's frame is its owner's: audit doesn't ask which it is
	n, _ = m.RAM.Load(entryAt(t, m, 0, 0), 8)
	return x, pte.Unpack(n)
}

// overwrites: process 1 stores an entry of process 0's table.
func overwrites(t *testing.T, e pte.Entry) Step {
	t.Helper()
	n, err := pte.Pack(e)
	if err != api.OK {
		t.Fatalf("Pack: %d", err)
	}
	return asks(call.Store, 9*page, 8, n)
}

// P21.2: a line is stale from the step on at which the tables say otherwise; if they do so in a way that audit sees, that is told first.
func TestStaleLater(t *testing.T) {
	x, entry := intruder(t)
	x.well(t, idle, tick, overwrites(t, entry))
	entry.Write = false
	wantFound(t, "another use", x.over([]Step{idle, asks(99), overwrites(t, entry), idle}), Found{At: 2, Why: api.ErrOver})
	x, entry = intruder(t)
	entry.Frame = 39
	wantFound(t, "a free frame", x.over([]Step{idle, overwrites(t, entry), idle}), Found{At: 1, Why: api.ErrThere})
	if len(x.kernel.Machine().Stale()) == 0 {
		t.Error("no line is stale")
	}
}

// P21.2: the first of the reasons, where all of them are there.
func TestFirstReason(t *testing.T) {
	x := begin(t, plan(40, 2))
	x.well(t, asks(call.Map, 0, 2, 1), asks(call.Store, 8, 8, 7))
	m := x.kernel.Machine()
	m.TLB.Fill(0, tlb.Line{Valid: true, Tag: 1, Page: 1, Frame: 1})
	m.Tree.Charge(1, 1)
	wantFound(t, "a stale line, and audit", x.over([]Step{idle}), Found{At: 0, Why: api.ErrQuota})
	m.Free.Take(0)
	m.Free.Take(0)
	wantFound(t, "a stale line, and audit", x.over([]Step{idle}), Found{At: 0, Why: api.ErrNone})
	x.kernel.Do(call.Words{call.Map, 5, 1, 1})
	wantFound(t, "all", x.over([]Step{asks(call.Load, 5*page, 8)}), Found{At: 0, Why: api.ErrForm})
	wantFound(t, "all but the first", x.over([]Step{asks(call.Load, 0, 8)}), Found{At: 0, Why: api.ErrNone})
}

// P21.2: the model has as many frames and as many tables of the kernel's: a process may have just as many, and not one more.
func TestModelOf(t *testing.T) {
	scattered := plan(40, 2)
	scattered.Space.Map = append(scattered.Space.Map, area(5*page-1, 2, 9)...)
	great := plan(1<<18+1, 2)
	great.Space.Map = area(page, 60*page, bootmap.Usable)
	for _, p := range []kernel.Plan{plan(4, 1), plan(40, 2), plan(1000, 3), scattered, great} {
		k, e := kernel.Boot(p)
		if e != api.OK {
			t.Fatalf("Boot: %d", e)
		}
		v, _ := k.Get(0)
		for _, s := range []struct {
			many int
			want api.Errno
		}{{v.Room + 1, api.ErrQuota}, {v.Room, api.OK}} {
			r := modelOf(k, p.Quantum).Do(call.Words{call.Spawn, uint64(s.many)})
			if v.Room == 0 && s.want == api.OK {
				s.want = api.ErrQuota // not even a root
			}
			if r.Err != s.want {
				t.Errorf("%d frames, Spawn of %d: %+v; want %d", p.Space.Frames, s.many, r, s.want)
			}
		}
	}
}

// P1, K7: a model that can't be booted isn't nil: it tells otherwise, at any step.
func TestNoModel(t *testing.T) {
	x := begin(t, plan(40, 2))
	for _, s := range []Step{tick, idle, asks(99)} {
		x.model = modelOf(x.kernel, 0)
		if l := x.model.Line(); len(l) != 0 {
			t.Fatalf("a model with turns of no ticks: %v", l)
		}
		wantFound(t, "no model", x.over([]Step{s}), Found{At: 0, Why: api.ErrForm})
	}
}
