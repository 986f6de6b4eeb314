package audit

import (
	"cmp"
	"fmt"
	"math/rand"
	"slices"
	"testing"

	"demesne/api"
	"demesne/bootmap"
	"demesne/call"
	"demesne/kernel"
	"demesne/region"
	"demesne/space"
)

// sight is what a machine is told to be for, frame by frame, by another way than the program's: from the pages that it says lead somewhere.
type sight struct {
	t      *testing.T
	m      *space.Machine
	all    []int // the frames that the boot map says
	tables []int // the kernel's
}

// see: a machine that was booted just now, without spaces, by this plan.
func see(t *testing.T, m *space.Machine, p space.Plan, tables []int) *sight {
	t.Helper()
	ranges, e := bootmap.Frames(p.Map, p.Frames, p.Kernel)
	must(t, "bootmap.Frames", e)
	s := &sight{t: t, m: m, tables: tables}
	for _, r := range ranges {
		for frame := r.From; frame < r.To; frame++ {
			s.all = append(s.all, frame)
		}
	}
	return s
}

// way: the frames from a space's root to that of a page, level by level.
func (s *sight) way(id, at int) []int {
	root, _ := s.m.Root(id)
	all := []int{root}
	for _, place := range []int{at >> 27 & 511, at >> 18 & 511, at >> 9 & 511, at & 511} {
		x, _ := s.m.RAM.Load(uint64(all[len(all)-1]*page+8*place), 8)
		all = append(all, int(x>>12&0xfffff))
	}
	return all
}

// want: what Frames should say.
func (s *sight) want() []Use {
	uses := map[Use]int{}
	for _, id := range s.m.Spaces() {
		for _, frame := range s.tables {
			uses[Use{Frame: frame, For: 1}]++
		}
		root, _ := s.m.Root(id)
		uses[Use{Frame: root, For: 2, Space: id}]++
		for _, at := range s.m.Pages(id) {
			way := s.way(id, at)
			for _, frame := range way[:4] {
				uses[Use{Frame: frame, For: 2, Space: id}]++
			}
			if r, _ := region.Find(s.m.Regions(id), at); r.Kind == space.Own {
				uses[Use{Frame: way[4], For: 3, Space: id}]++
			}
		}
	}
	var l []Use
	for u := range uses {
		l = append(l, u)
	}
	for _, frame := range s.all {
		if s.isFree(frame) {
			l = append(l, Use{Frame: frame})
		}
	}
	slices.SortFunc(l, func(a, b Use) int { return cmp.Compare(a.Frame, b.Frame) })
	return l
}

// isFree: no block that is given has it; here all of these are single frames.
func (s *sight) isFree(frame int) bool {
	return s.m.Free.Order(frame) < 0
}

// wantPartition: Frames says just that; each frame is there once, but the kernel's tables where there are no spaces; Check says so.
func (s *sight) wantPartition() []Use {
	s.t.Helper()
	l, want := Frames(s.m), s.want()
	if !slices.Equal(l, want) {
		s.t.Fatalf("Frames: %v\nwant %v", l, want)
	}
	there := s.all
	if len(s.m.Spaces()) == 0 {
		there = slices.DeleteFunc(slices.Clone(there), func(frame int) bool { return slices.Contains(s.tables, frame) })
	}
	if !slices.EqualFunc(l, there, func(u Use, frame int) bool { return u.Frame == frame }) {
		s.t.Fatalf("Frames: %v\nwant each of %v", l, there)
	}
	if e := Check(s.m); e != api.OK {
		s.t.Fatalf("Check: %d", e)
	}
	return l
}

// plans: machines of many kinds.
func plans(seed int) space.Plan {
	p := plan([]int{14, 40, 120}[seed%3])
	p.Tags = []int{3, 1, 4095}[seed/3%3]
	switch seed % 4 {
	case 1: // the frames are here and there
		p.Map = append(p.Map, area(2*page, page, 2)...)
		p.Map = append(p.Map, area(5*page-1, 2, 9)...)
		p.Kernel = api.Range{From: 8, To: 9}
	case 2: // so many that the kernel has more tables
		p.Map = area(page, uint64(p.Frames)*page, bootmap.Usable)
		p.Frames = 1<<18 + 1
	}
	return p
}

// edges: where pages lie, at the edges of tables.
var edges = []int{0, 1, 2, 3, 510, 511, 512, 1<<18 - 1, 1 << 18, 1<<27 - 1, 1 << 27, api.TopPage - 2, api.TopPage - 1}

// change: a call of a machine, which may refuse it.
func change(rnd *rand.Rand, m *space.Machine) (string, api.Errno) {
	id, to, at, other := rnd.Intn(4), rnd.Intn(4), edges[rnd.Intn(len(edges))], edges[rnd.Intn(len(edges))]
	if rnd.Intn(20) == 0 {
		id = -1 - rnd.Intn(2)*98
	}
	led := at
	if all := m.Pages(id); len(all) > 0 && rnd.Intn(6) > 0 {
		led = all[rnd.Intn(len(all))]
	}
	perm := api.Perm{Write: rnd.Intn(3) > 0, User: true, Exec: rnd.Intn(4) == 0}
	r := pages(at, at+1+rnd.Intn(2))
	switch rnd.Intn(40) {
	case 0, 1, 2:
		return "Open", m.Open(id, rnd.Intn(5))
	case 3, 4, 5, 6, 7, 8:
		return "Map", m.Map(id, r, perm)
	case 9, 10:
		return "Unmap", m.Unmap(id, pages(led, led+1))
	case 11, 12:
		return "Protect", m.Protect(id, pages(led, led+1), perm)
	case 13:
		return "Protect", m.Protect(id, r, perm)
	case 14:
		return "Back", back(m, id)
	case 15:
		return "Back", m.Back(id, led, to, other)
	case 16:
		return "Close", m.Close(id)
	case 17, 18, 19, 20, 21, 22, 23, 24, 25:
		return "Lend", m.Lend(id, led, to, other, api.Perm{Write: rnd.Intn(3) > 0, User: true})
	}
	_, _, e := m.Touch(id, at, api.Access{Write: rnd.Intn(2) == 0, User: true})
	return "Touch", e
}

// back: a page that a space has borrowed is given back, if there is one.
func back(m *space.Machine, to int) api.Errno {
	for _, r := range m.Regions(to) {
		if r.Kind != space.Borrowed {
			continue
		}
		for _, id := range m.Spaces() {
			for _, at := range m.Pages(id) {
				if e := m.Back(id, at, to, r.Pages.From); e == api.OK {
					return e
				}
			}
		}
	}
	return api.ErrNone
}

// P20.1, P20.2, P20.3: any calls of machines.
func TestAnyCalls(t *testing.T) {
	t.Parallel()
	told := map[string]int{}
	for seed := range 24 {
		rnd := rand.New(rand.NewSource(int64(seed)))
		p := plans(seed)
		m := boot(t, p)
		s := see(t, m, p, m.Free.Given())
		for _, n := range []int{5, 12, 0} {
			m.Tree.Child(0, min(n, m.Tree.Room(0)))
		}
		was := s.wantPartition()
		for range 400 {
			what, e := change(rnd, m)
			now := s.wantPartition()
			if e != api.OK && !slices.Equal(now, was) {
				t.Fatalf("%s, which was refused with %d, has changed %v to %v", what, e, was, now)
			}
			was = now
			told[fmt.Sprint(what, " ", e)]++
			if len(m.Spaces()) == 0 {
				told["empty"]++
			}
		}
	}
	for _, what := range []string{"Open 0", "Open 1", "Open 5", "Open 6", "Open 8", "Map 0", "Map 5", "Map 6", "Unmap 0", "Unmap 5", "Unmap 11", "Protect 0", "Protect 5", "Protect 11",
		"Touch 0", "Touch 5", "Touch 8", "Touch 9", "Lend 0", "Lend 5", "Lend 6", "Lend 8", "Lend 10", "Back 0", "Back 5", "Close 0", "Close 5", "Close 11", "empty"} {
		if told[what] < 5 {
			t.Errorf("%s: %d times only", what, told[what])
		}
	}
}

// ask: words of a process, of which many are refused.
func ask(rnd *rand.Rand, k *kernel.Kernel) call.Words {
	at := uint64(edges[rnd.Intn(len(edges))])
	led, n := at, uint64(1)
	if v, _ := k.Get(k.Now()); rnd.Intn(6) > 0 {
		if all := k.Machine().Pages(v.Space); len(all) > 0 {
			led = uint64(all[rnd.Intn(len(all))])
		}
	}
	grant := uint64(rnd.Intn(256))
	if ids := k.Grants(k.Now()); len(ids) > 0 {
		grant = uint64(ids[rnd.Intn(len(ids))])
	}
	switch rnd.Intn(20) {
	case 0, 1, 2:
		return call.Words{call.Map, at, n, uint64(rnd.Intn(4) | rnd.Intn(2))}
	case 3:
		return call.Words{call.Unmap, led, n}
	case 4:
		return call.Words{call.Protect, led, n, uint64(rnd.Intn(4))}
	case 5, 6, 7, 8:
		return call.Words{call.Store, at * page, 8, rnd.Uint64()}
	case 9:
		return call.Words{call.Load, at * page, 8}
	case 10, 11, 12:
		return call.Words{call.Offer, led, uint64(rnd.Intn(4)), uint64(rnd.Intn(2))}
	case 13, 14, 15:
		return call.Words{call.Accept, grant, at}
	case 16:
		if rnd.Intn(2) == 0 {
			return call.Words{[]uint64{call.Revoke, call.Leave}[rnd.Intn(2)], grant}
		}
		return call.Words{call.Spawn, uint64([]int{0, 1, 4, 9, 15, 30}[rnd.Intn(6)])}
	case 17:
		if rnd.Intn(2) == 0 {
			return call.Words{uint64([]int{call.Exit, call.Exit, 27}[rnd.Intn(3)])}
		}
	}
	return call.Words{call.Yield}
}

// P20.2, P20.3: any calls of kernels, with any choices.
func TestAnyKernels(t *testing.T) {
	t.Parallel()
	told := map[string]int{}
	for seed := range 24 {
		rnd := rand.New(rand.NewSource(int64(seed)))
		p := kernel.Plan{Space: plans(seed), Quantum: 3}
		for range 700 {
			p.Choices = append(p.Choices, rnd.Intn(51))
		}
		tables := boot(t, p.Space).Free.Given() // the kernel's own machine has a space from the beginning
		k, e := kernel.Boot(p)
		must(t, "kernel.Boot", e)
		s := see(t, k.Machine(), p.Space, tables)
		was := s.wantPartition()
		for range 500 {
			w := ask(rnd, k)
			r := k.Do(w)
			now := s.wantPartition()
			if r.Err != api.OK && !slices.Equal(now, was) {
				t.Fatalf("Do(%v), which was refused with %d, has changed %v to %v", w, r.Err, was, now)
			}
			was = now
			if r.Err == api.ErrInval {
				w[0] = 0
			}
			told[fmt.Sprint(w[0], " ", r.Err)]++
		}
	}
	for _, what := range []string{"0 13", "1 0", "1 6", "2 0", "2 11", "3 0", "3 5", "3 11", "4 0", "4 8", "4 9", "5 0", "5 8", "5 9", "6 0", "6 5", "6 10", "7 0", "7 5", "7 6", "7 8", "7 10",
		"8 0", "8 5", "9 0", "9 5", "12 0", "12 8", "13 0", "13 10", "14 0"} {
		if told[what] < 5 {
			t.Errorf("%s: %d times only", what, told[what])
		}
	}
}
