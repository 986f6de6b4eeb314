package audit

import (
	"cmp"
	"hash/fnv"
	"math"
	"slices"
	"testing"

	"demesne/api"
	"demesne/bootmap"
	"demesne/quota"
	"demesne/space"
)

const page = api.PageSize

var (
	write  = api.Perm{Write: true, User: true}
	read   = api.Perm{User: true}
	loads  = api.Access{User: true}
	stores = api.Access{Write: true, User: true}
)

// area: one entry of a boot map.
func area(from, many uint64, kind byte) []byte {
	s := make([]byte, bootmap.Size)
	for i := range 8 {
		s[i], s[8+i] = byte(from>>(8*i)), byte(many>>(8*i))
	}
	s[16] = kind
	return s
}

// plan: a machine of so many frames, the first the kernel's.
func plan(frames int) space.Plan {
	return space.Plan{Frames: frames, Kernel: api.Range{From: 0, To: 1}, Tags: 3, Map: area(0, uint64(frames)*page, bootmap.Usable)}
}

func boot(t *testing.T, p space.Plan) *space.Machine {
	t.Helper()
	m, e := space.Boot(p)
	if e != api.OK {
		t.Fatalf("Boot: %d", e)
	}
	return m
}

func must(t *testing.T, what string, e api.Errno) {
	t.Helper()
	if e != api.OK {
		t.Fatalf("%s: %d", what, e)
	}
}

func pages(from, to int) api.Range {
	return api.Range{From: from, To: to}
}

// open: a space of the root container, which may use these pages.
func open(t *testing.T, m *space.Machine, id int, may api.Range) {
	t.Helper()
	must(t, "Open", m.Open(id, 0))
	must(t, "Map", m.Map(id, may, write))
}

// touch: a page leads to a frame then.
func touch(t *testing.T, m *space.Machine, id, at int) int {
	t.Helper()
	frame, _, e := m.Touch(id, at, stores)
	must(t, "Touch", e)
	return frame
}

// wantCheck: so many frames are free, the kernel's, tables, data; and all is well.
func wantCheck(t *testing.T, m *space.Machine, want ...int) {
	t.Helper()
	if got := Count(Frames(m)); !slices.Equal(got[:], want) {
		t.Errorf("Count: %v; want %v", got, want)
	}
	if e := Check(m); e != api.OK {
		t.Errorf("Check: %d", e)
	}
}

// find: what a list says of a frame.
func find(l []Use, frame int) (of []Use) {
	for _, u := range l {
		if u.Frame == frame {
			of = append(of, u)
		}
	}
	return of
}

func wantUse(t *testing.T, m *space.Machine, want ...Use) {
	t.Helper()
	if got := find(Frames(m), want[0].Frame); !slices.Equal(got, want) {
		t.Errorf("frame %d: %v; want %v", want[0].Frame, got, want)
	}
}

// Example 1 of the chapter, and what was there ahead of it.
func TestExample(t *testing.T) {
	m := boot(t, plan(40))
	wantCheck(t, m, 37, 0, 0, 0)
	must(t, "Open", m.Open(1, 0))
	wantCheck(t, m, 36, 2, 1, 0)
	must(t, "Map", m.Map(1, pages(0, 4), write))
	wantCheck(t, m, 36, 2, 1, 0)
	frame := touch(t, m, 1, 2)
	wantCheck(t, m, 32, 2, 4, 1)
	wantUse(t, m, Use{Frame: frame, For: Data, Space: 1})
	root, _ := m.Root(1)
	wantUse(t, m, Use{Frame: root, For: Table, Space: 1})
}

// P20.1: which frame is for what, one by one: frames are taken in the order of the calls, the lowest first.
func TestFrames(t *testing.T) {
	m := boot(t, plan(14))
	var none []Use
	for frame := 3; frame < 14; frame++ {
		none = append(none, Use{Frame: frame})
	}
	if got := Frames(m); !slices.Equal(got, none) {
		t.Errorf("without spaces: %v", got)
	}
	open(t, m, 7, pages(0, 4))
	open(t, m, 0, pages(0, 4))
	touch(t, m, 7, 3)
	touch(t, m, 7, 0)
	root7, _ := m.Root(7)
	root0, _ := m.Root(0)
	var data []int
	for _, at := range []int{3, 0} {
		frame, _, e := m.Touch(7, at, loads)
		must(t, "Touch", e)
		data = append(data, frame)
	}
	l := Frames(m)
	if len(l) != 13 {
		t.Fatalf("Frames: %v", l)
	}
	for i, u := range l {
		want := Use{Frame: i + 1, For: Table, Space: 7} // but for those below, what was taken are the tables on the way
		switch {
		case i < 2:
			want = Use{Frame: i + 1, For: Kernel}
		case u.Frame == root7:
		case u.Frame == root0:
			want.Space = 0
		case slices.Contains(data, u.Frame):
			want.For = Data
		case m.Free.Order(u.Frame) < 0:
			want = Use{Frame: i + 1}
		}
		if u != want {
			t.Errorf("%v; want %v", u, want)
		}
	}
	if n := Count(l); n != [4]int{4, 2, 5, 2} {
		t.Errorf("Count: %v", n)
	}
}

// P20.1: pages that share all, some and none of their tables.
func TestTables(t *testing.T) {
	m := boot(t, plan(80))
	must(t, "Open", m.Open(5, 0))
	tables, data := 1, 0
	for _, c := range []struct{ page, tables int }{
		{0, 3}, {1, 0}, {511, 0}, {512, 1}, {1<<18 - 1, 1}, {1 << 18, 2}, {1<<27 - 1, 2}, {1 << 27, 3}, {api.TopPage - 1, 3}, {api.TopPage - 2, 0},
	} {
		must(t, "Map", m.Map(5, pages(c.page, c.page+1), read))
		if _, _, e := m.Touch(5, c.page, loads); e != api.OK {
			t.Fatalf("Touch: %d", e)
		}
		tables, data = tables+c.tables, data+1
		wantCheck(t, m, 77-tables-data, 2, tables, data)
	}
	must(t, "Unmap", m.Unmap(5, pages(0, 1<<16)))
	wantCheck(t, m, 77-(tables-2)-(data-4), 2, tables-2, data-4)
}

// P20.1: several spaces, in any order of their numbers; a borrowed page is its owner's, and its taker has the tables.
func TestBorrowed(t *testing.T) {
	m := boot(t, plan(60))
	open(t, m, 9, pages(0, 4))
	open(t, m, 2, pages(0, 4))
	open(t, m, math.MaxInt, pages(100, 104))
	frame := touch(t, m, 9, 1)
	wantCheck(t, m, 57-3-4, 2, 6, 1)
	must(t, "Lend", m.Lend(9, 1, 2, 8, read))
	must(t, "Lend", m.Lend(9, 1, 2, 1<<27, write))
	must(t, "Lend", m.Lend(9, 1, math.MaxInt, 99, write))
	wantCheck(t, m, 57-3-4-3-3-3, 2, 15, 1)
	wantUse(t, m, Use{Frame: frame, For: Data, Space: 9})
	own := touch(t, m, 2, 0)
	wantUse(t, m, Use{Frame: own, For: Data, Space: 2})
	wantCheck(t, m, 57-17, 2, 15, 2)
	must(t, "Back", m.Back(9, 1, 2, 1<<27))
	wantCheck(t, m, 57-14, 2, 12, 2)
	must(t, "Back", m.Back(9, 1, 2, 8))
	must(t, "Back", m.Back(9, 1, math.MaxInt, 99))
	must(t, "Close", m.Close(9))
	wantUse(t, m, Use{Frame: frame, For: Free})
	wantCheck(t, m, 57-6, 2, 5, 1)
	must(t, "Close", m.Close(2))
	wantCheck(t, m, 57-1, 2, 1, 0)
	must(t, "Close", m.Close(math.MaxInt))
	wantCheck(t, m, 57, 0, 0, 0)
}

// P20.1, P20.2: the kernel's tables of machines great and small.
func TestKernelTables(t *testing.T) {
	for _, c := range []struct{ frames, tables int }{{4, 2}, {1 << 18, 2}, {1<<18 + 1, 3}, {1 << 20, 5}} {
		m := boot(t, space.Plan{Frames: c.frames, Tags: 1, Map: area(0, uint64(c.frames)*page, bootmap.Usable)})
		wantCheck(t, m, c.frames-c.tables, 0, 0, 0)
		tables := m.Free.Given()
		must(t, "Open", m.Open(1, 0))
		wantCheck(t, m, c.frames-c.tables-1, c.tables, 1, 0)
		root, _ := m.Root(1)
		for frame, u := range Frames(m) {
			want := Use{Frame: frame}
			if slices.Contains(tables, frame) {
				want.For = Kernel
			} else if frame == root {
				want.For, want.Space = Table, 1
			}
			if u != want {
				t.Fatalf("%d frames: %v; want %v", c.frames, u, want)
			}
		}
	}
}

// P20.1: uses of any kind are counted, by their remainder that isn't below 0.
func TestCount(t *testing.T) {
	for _, c := range []struct {
		of   []int
		want [4]int
	}{
		{nil, [4]int{}},
		{[]int{Free, Kernel, Table, Data}, [4]int{1, 1, 1, 1}},
		{[]int{Data, Data, Table}, [4]int{0, 0, 1, 2}},
		{[]int{4, 5, 6, 7}, [4]int{1, 1, 1, 1}},
		{[]int{-4, -3, -2, -1}, [4]int{1, 1, 1, 1}},
		{[]int{-1, -5, -9}, [4]int{0, 0, 0, 3}},
		{[]int{-3, 9, 1}, [4]int{0, 3, 0, 0}},
		{[]int{math.MinInt, math.MinInt + 1, math.MinInt + 2, math.MinInt + 3, math.MaxInt}, [4]int{1, 1, 1, 2}},
	} {
		var l []Use
		for i, use := range c.of {
			l = append(l, Use{Frame: 9 - i, For: use, Space: -i})
		}
		was := slices.Clone(l)
		if got := Count(l); got != c.want || !slices.Equal(l, was) {
			t.Errorf("Count of %v: %v; want %v", c.of, got, c.want)
		}
	}
	if Count([]Use{}) != [4]int{} {
		t.Error("of an empty list")
	}
	if Free != 0 || Kernel != 1 || Table != 2 || Data != 3 {
		t.Error("the uses")
	}
}

// spoilt: a machine with two spaces, each with a page of its own, one of which borrows one, that is changed then from outside.
func spoilt(t *testing.T, change ...func(m *space.Machine)) *space.Machine {
	t.Helper()
	m := boot(t, plan(60))
	open(t, m, 1, pages(0, 4))
	open(t, m, 2, pages(0, 4))
	touch(t, m, 1, 0)
	touch(t, m, 2, 3)
	must(t, "Lend", m.Lend(1, 0, 2, 9, read))
	for _, f := range change {
		f(m)
	}
	return m
}

// frameOf: where a page of a space leads.
func frameOf(m *space.Machine, id, at int) int {
	frame, _, _ := m.Touch(id, at, loads)
	return frame
}

// Each way to spoil a machine that can be seen, and nothing else of it.
func twice(m *space.Machine) { // a page's frame is free, too
	m.Free.Give(frameOf(m, 1, 0))
	m.Tree.Credit(0, 1)
}
func lost(m *space.Machine) { // a frame is given for nothing
	m.Free.Take(0)
	m.Tree.Charge(0, 1)
}
func uncharged(m *space.Machine) { // a frame that nobody has is charged
	m.Tree.Charge(0, 1)
}
func unpaid(m *space.Machine) {
	m.Tree.Credit(0, 1)
}

// P20.1: each error of Check, in its order.
func TestCheck(t *testing.T) {
	for i, c := range []struct {
		change []func(m *space.Machine)
		want   api.Errno
	}{
		{nil, api.OK},
		{[]func(m *space.Machine){twice}, api.ErrThere},
		{[]func(m *space.Machine){lost}, api.ErrNone},
		{[]func(m *space.Machine){uncharged}, api.ErrQuota},
		{[]func(m *space.Machine){unpaid}, api.ErrQuota},
		{[]func(m *space.Machine){uncharged, unpaid}, api.OK},
		{[]func(m *space.Machine){lost, twice}, api.ErrThere},
		{[]func(m *space.Machine){twice, uncharged}, api.ErrThere},
		{[]func(m *space.Machine){lost, uncharged}, api.ErrNone},
		{[]func(m *space.Machine){lost, lost, unpaid}, api.ErrNone},
	} {
		if got := Check(spoilt(t, c.change...)); got != c.want {
			t.Errorf("%d: %d; want %d", i, got, c.want)
		}
	}
}

// P20.1: a frame that is given in a greater block is as many; what is charged to children counts, too.
func TestCheckOfBlocksAndChildren(t *testing.T) {
	m := boot(t, plan(60))
	box, e := m.Tree.Child(0, 20)
	must(t, "Child", e)
	must(t, "Open", m.Open(1, box))
	must(t, "Map", m.Map(1, pages(0, 4), write))
	touch(t, m, 1, 0)
	wantCheck(t, m, 57-5, 2, 4, 1)
	must(t, "Charge", m.Tree.Charge(box, 1))
	if e := Check(m); e != api.ErrQuota {
		t.Errorf("a child is charged for too much: %d", e)
	}
	must(t, "Credit", m.Tree.Credit(box, 1))
	at, e := m.Free.Take(3)
	must(t, "Take", e)
	must(t, "Charge", m.Tree.Charge(0, 8))
	if e := Check(m); e != api.ErrNone {
		t.Errorf("a block is for nothing: %d", e)
	}
	if n := Count(Frames(m)); n != [4]int{57 - 5 - 8, 2, 4, 1} || find(Frames(m), at+7) != nil {
		t.Errorf("Count: %v", n)
	}
	must(t, "Give", m.Free.Give(at))
	must(t, "Credit", m.Tree.Credit(0, 8))
	wantCheck(t, m, 57-5, 2, 4, 1)
}

// P20.1: of a machine without spaces what is given needn't be for something that is told, but it is charged for.
func TestCheckWithoutSpaces(t *testing.T) {
	m := boot(t, plan(60))
	at, e := m.Free.Take(2)
	must(t, "Take", e)
	if e := Check(m); e != api.ErrQuota {
		t.Errorf("nobody is charged: %d", e)
	}
	must(t, "Charge", m.Tree.Charge(0, 4))
	wantCheck(t, m, 57-4, 0, 0, 0)
	must(t, "Open", m.Open(1, 0))
	if e := Check(m); e != api.ErrNone {
		t.Errorf("with a space: %d", e)
	}
	must(t, "Give", m.Free.Give(at))
	if e := Check(m); e != api.ErrQuota {
		t.Errorf("four are charged for nothing: %d", e)
	}
}

// P20.1: a frame of several uses is told with each of them, in order; also twice with one.
func TestFramesTwice(t *testing.T) {
	m := spoilt(t, twice)
	frame := frameOf(m, 1, 0)
	wantUse(t, m, Use{Frame: frame, For: Free}, Use{Frame: frame, For: Data, Space: 1})

	m = spoilt(t)
	a, b := frameOf(m, 1, 0), frameOf(m, 2, 3)
	moveAll(m, a, b) // what led to a leads to b
	wantUse(t, m, Use{Frame: b, For: Data, Space: 1}, Use{Frame: b, For: Data, Space: 2})
	if find(Frames(m), a) != nil || Check(m) != api.ErrThere {
		t.Errorf("frame %d: %v; Check %d", a, find(Frames(m), a), Check(m))
	}

	m = spoilt(t)
	touch(t, m, 1, 2)
	a, b = frameOf(m, 1, 0), frameOf(m, 1, 2)
	moveAll(m, a, b)
	wantUse(t, m, Use{Frame: b, For: Data, Space: 1}, Use{Frame: b, For: Data, Space: 1})
	if Check(m) != api.ErrThere {
		t.Errorf("Check: %d", Check(m))
	}

	m = spoilt(t)
	root, _ := m.Root(1)
	moveAll(m, frameOf(m, 1, 0), root)
	wantUse(t, m, Use{Frame: root, For: Table, Space: 1}, Use{Frame: root, For: Data, Space: 1})
	if Check(m) != api.ErrThere {
		t.Errorf("Check: %d", Check(m))
	}
}

// P20.1: by rising frames, then by rising uses, then by rising spaces, whichever comes first.
func TestOrder(t *testing.T) {
	m := spoilt(t)
	root, _ := m.Root(2)
	moveAll(m, frameOf(m, 1, 0), root)
	wantUse(t, m, Use{Frame: root, For: Table, Space: 2}, Use{Frame: root, For: Data, Space: 1})

	rising := []Use{{1, 0, 0}, {1, 2, 9}, {1, 3, 0}, {1, 3, 0}, {1, 3, 4}, {2, 0, 0}, {2, 2, 1}, {2, 2, 3}, {5, 0, 0}}
	for i, a := range rising {
		for j, b := range rising {
			if want := cmp.Compare(i, j); inOrder(a, b) != want && a != b {
				t.Errorf("%v, %v: %d", a, b, inOrder(a, b))
			}
		}
	}
	for mask := range 1 << len(rising) {
		var l [2][]Use
		for i, u := range rising {
			which := mask >> i & 1
			l[which] = append(l[which], u)
		}
		if got := merge(l[0], l[1]); !slices.Equal(got, rising) {
			t.Fatalf("%v and %v: %v", l[0], l[1], got)
		}
	}
}

// moveAll: each entry of a table of level 1 that leads to a frame leads to another one.
func moveAll(m *space.Machine, from, to int) {
	for at := uint64(0); at < uint64(m.RAM.Frames())*page; at += 8 {
		if x, _ := m.RAM.Load(at, 8); x&1 > 0 && x&128 == 0 && int(x>>12&0xfffff) == from {
			m.RAM.Store(at, 8, x&^0xfffff000|uint64(to)<<12)
		}
	}
}

// P2 (K3, K4): looking changes nothing, answers are new, and the same each time.
func TestLooking(t *testing.T) {
	m := spoilt(t)
	was := stateOf(m)
	l := Frames(m)
	clear(Frames(m))
	_ = append(Frames(m)[:1], Use{Frame: 99})
	must(t, "Check", Check(m))
	if !slices.Equal(Frames(m), l) || stateOf(m) != was {
		t.Error("looking has changed the machine")
	}
	touch(t, m, 1, 3)
	if slices.Equal(Frames(m), l) || Count(l) != [4]int{57 - 10, 2, 8, 2} {
		t.Error("the machine has changed an answer")
	}
	if other := spoilt(t); !slices.Equal(Frames(other), l) {
		t.Error("the same calls are answered otherwise")
	}
}

// state is what a look at a machine could have changed.
type state struct {
	bytes uint64
	free  int
	root  quota.Node
	lines int
}

func stateOf(m *space.Machine) state {
	h := fnv.New64a()
	for at := uint64(0); at < uint64(m.RAM.Frames())*page; at += 8 {
		x, _ := m.RAM.Load(at, 8)
		h.Write([]byte{byte(x), byte(x >> 8), byte(x >> 16), byte(x >> 24), byte(x >> 32), byte(x >> 40), byte(x >> 48), byte(x >> 56)})
	}
	root, _ := m.Tree.Get(0)
	return state{bytes: h.Sum64(), free: m.Free.Free(), root: root, lines: len(m.TLB.Lines())}
}
