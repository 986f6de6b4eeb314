package table

import (
	"maps"
	"math"
	"math/rand"
	"slices"
	"testing"

	"demesne/api"
	"demesne/buddy"
	"demesne/pte"
	"demesne/quota"
	"demesne/ram"
	"demesne/walk"
)

// The uses that the tests take.
var (
	read  = api.Perm{User: true}
	write = api.Perm{Write: true, User: true}
	all   = api.Perm{Write: true, User: true, Exec: true}
)

const top = 1 << 35

// oddPages: numbers that are no page.
var oddPages = []int{math.MinInt, math.MinInt + 1, -1 << 40, -1 << 35, -512, -1, top, top + 1, top + 512, 1 << 36, 1 << 48, 1 << 52, 1<<52 + 5, math.MaxInt - 1, math.MaxInt}

// purseOf: a purse of a memory of so many frames, of which these are free, and a container that may have so many.
func purseOf(t *testing.T, frames int, free api.Range, may int) Purse {
	t.Helper()
	r, e := ram.New(frames, nil)
	b, f := buddy.New([]api.Range{free})
	tree, g := quota.New(may)
	if e != api.OK || f != api.OK || g != api.OK {
		t.Fatalf("a purse: %d, %d, %d", e, f, g)
	}
	return Purse{RAM: r, Free: b, Tree: tree}
}

// purse: of a small memory; frame 0 is never free.
func purse(t *testing.T, frames, may int) Purse {
	t.Helper()
	return purseOf(t, frames, api.Range{From: 1, To: frames}, may)
}

// kernelAndRoot: made, without an error.
func kernelAndRoot(t *testing.T, p Purse) (int, int) {
	t.Helper()
	k, e := Kernel(p)
	if e != api.OK {
		t.Fatalf("Kernel: %d", e)
	}
	return k, newRoot(t, p, k)
}

func newRoot(t *testing.T, p Purse, kernel int) int {
	t.Helper()
	root, e := Root(p, kernel)
	if e != api.OK {
		t.Fatalf("Root: %d", e)
	}
	return root
}

// word: a frame's word at a place.
func word(p Purse, frame, place int) uint64 {
	x, _ := p.RAM.Load(uint64(frame)*4096+uint64(place)*8, 8)
	return x
}

func put(p Purse, frame, place int, x uint64) {
	p.RAM.Store(uint64(frame)*4096+uint64(place)*8, 8, x)
}

// state is all that a call could have changed.
type state struct {
	words []uint64
	free  [api.MaxOrder + 1][]int
	given []int
	nodes [api.MaxNodes]quota.Node
}

func stateOf(p Purse) state {
	var s state
	for frame := range p.RAM.Frames() {
		if p.RAM.Clear(frame) {
			continue
		}
		for place := range 512 {
			s.words = append(s.words, uint64(frame), word(p, frame, place))
		}
	}
	for order := range s.free {
		s.free[order] = p.Free.Blocks(order)
	}
	s.given = p.Free.Given()
	for i := range s.nodes {
		s.nodes[i], _ = p.Tree.Get(i)
	}
	return s
}

// same: has nothing changed?
func same(a, b state) bool {
	return slices.Equal(a.words, b.words) && sameFree(a, b) && a.nodes == b.nodes
}

// sameFree: are the same blocks free and given?
func sameFree(a, b state) bool {
	for order := range a.free {
		if !slices.Equal(a.free[order], b.free[order]) {
			return false
		}
	}
	return slices.Equal(a.given, b.given)
}

// refuse: a call answers this error, and leaves all as it was.
func refuse(t *testing.T, p Purse, what string, want api.Errno, f func() api.Errno) {
	t.Helper()
	before := stateOf(p)
	if e := f(); e != want {
		t.Errorf("%s: %d; want %d", what, e, want)
	}
	if !same(stateOf(p), before) {
		t.Errorf("%s has changed something", what)
	}
}

func wantUsed(t *testing.T, p Purse, used int) {
	t.Helper()
	n, _ := p.Tree.Get(p.Box)
	if n.Used != used {
		t.Errorf("Used is %d; want %d", n.Used, used)
	}
}

func mapPage(t *testing.T, p Purse, root, page, frame int, m api.Perm, used int) {
	t.Helper()
	if e := Map(p, root, page, frame, m); e != api.OK {
		t.Fatalf("Map(%d, %d) = %d", page, frame, e)
	}
	wantUsed(t, p, used)
}

func unmapPage(t *testing.T, p Purse, root, page, frame, used int) {
	t.Helper()
	if f, e := Unmap(p, root, page); f != frame || e != api.OK {
		t.Fatalf("Unmap(%d) = %d, %d; want %d", page, f, e, frame)
	}
	wantUsed(t, p, used)
}

func wantPages(t *testing.T, p Purse, root int, want ...int) {
	t.Helper()
	if got := Pages(p, root); !slices.Equal(got, want) {
		t.Errorf("Pages = %v; want %v", got, want)
	}
}

func wantQuery(t *testing.T, p Purse, root, page, frame int, m api.Perm) {
	t.Helper()
	if f, q, ok := Query(p, root, page); f != frame || q != m || !ok {
		t.Errorf("Query(%d) = %d, %v, %v; want %d, %v", page, f, q, ok, frame, m)
	}
	x, _, e := walk.Walk(p.RAM, root, uint64(page)*4096+4095, api.Access{})
	if e != api.OK || x.Frame != frame || x.Perm != m || x.Global || x.Large {
		t.Errorf("Walk to page %d = %v, %d; want frame %d, %v", page, x, e, frame, m)
	}
}

func wantNowhere(t *testing.T, p Purse, root, page int) {
	t.Helper()
	if f, q, ok := Query(p, root, page); f != 0 || q != (api.Perm{}) || ok {
		t.Errorf("Query(%d) = %d, %v, %v; want nowhere", page, f, q, ok)
	}
	if page < 0 || page >= top {
		return
	}
	if x, f, e := walk.Walk(p.RAM, root, uint64(page)*4096, api.Access{}); e != api.ErrFault || f.Code != 0 {
		t.Errorf("Walk to page %d = %v, %v, %d; want nowhere", page, x, f, e)
	}
}

// P9.1, P9.3: the chapter's example.
func TestExample(t *testing.T) {
	p := purse(t, 30, 30)
	k, _ := Kernel(p)
	box, _ := p.Tree.Child(0, 10)
	p.Box = box
	root := newRoot(t, p, k)
	wantUsed(t, p, 1)
	mapPage(t, p, root, 0, 20, write, 4)
	mapPage(t, p, root, 1, 21, write, 4)
	unmapPage(t, p, root, 1, 21, 4)
	unmapPage(t, p, root, 0, 20, 1)
	few, _ := p.Tree.Child(0, 3)
	p.Box = few
	root = newRoot(t, p, k)
	refuse(t, p, "Map", api.ErrQuota, func() api.Errno { return Map(p, root, 0, 20, write) })
	wantUsed(t, p, 1)
}

// P9.3: Take charges, and a frame that is taken is all zeros, whatever it held.
func TestTake(t *testing.T) {
	p := purse(t, 4, 10)
	for frame := range 4 {
		put(p, frame, 0, 1)
		put(p, frame, 511, 1<<63)
	}
	for i, want := range []int{1, 2, 3} {
		frame, e := p.Take()
		if frame != want || e != api.OK || !p.RAM.Clear(frame) {
			t.Fatalf("Take = %d, %d, clear: %v; want %d", frame, e, p.RAM.Clear(frame), want)
		}
		wantUsed(t, p, i+1)
		if p.Free.Order(frame) != 0 || p.Free.Free() != 2-i {
			t.Errorf("frame %d isn't given: %d are free", frame, p.Free.Free())
		}
	}
	put(p, 2, 7, 77)
	p.Give(2)
	wantUsed(t, p, 2)
	if frame, e := p.Take(); frame != 2 || e != api.OK || !p.RAM.Clear(2) {
		t.Errorf("Take again = %d, %d", frame, e)
	}
	if word(p, 0, 511) != 1<<63 {
		t.Error("a frame that wasn't taken has changed")
	}
}

// P9.3: a Take that is refused, by the container ahead of the Buddy, changes nothing.
func TestTakeErrors(t *testing.T) {
	take := func(p Purse) func() api.Errno {
		return func() api.Errno {
			frame, e := p.Take()
			if frame != 0 {
				t.Errorf("Take = %d beside an error", frame)
			}
			return e
		}
	}
	p := purse(t, 4, 0)
	put(p, 1, 1, 11)
	refuse(t, p, "no room", api.ErrQuota, take(p))
	p = purse(t, 4, 10)
	p.Free, _ = buddy.New(nil)
	refuse(t, p, "no frame", api.ErrNoMem, take(p))
	p = purse(t, 4, 0)
	p.Free, _ = buddy.New(nil)
	refuse(t, p, "no room and no frame", api.ErrQuota, take(p))
	for _, box := range []int{math.MinInt, -1, 1, 63, 64, math.MaxInt} {
		p = purse(t, 4, 10)
		p.Box = box
		refuse(t, p, "no container", api.ErrNone, take(p))
	}
	p = purse(t, 4, 3)
	put(p, 3, 0, 5)
	for range 3 {
		p.Take()
	}
	refuse(t, p, "no room any more", api.ErrQuota, take(p))
}

// P9.3: a frame that the memory hasn't is none to take, though the Buddy has it: its Zero is refused.
func TestTakeBeyondMemory(t *testing.T) {
	p := purseOf(t, 4, api.Range{From: 4, To: 8}, 10)
	refuse(t, p, "a frame that isn't there", api.ErrBus, func() api.Errno {
		_, e := p.Take()
		return e
	})
}

// P9.3: Give of what wasn't taken credits nobody.
func TestGiveOfNone(t *testing.T) {
	p := purse(t, 8, 10)
	p.Take()
	for _, frame := range []int{math.MinInt, -1, 0, 2, 7, 8, math.MaxInt} {
		refuse(t, p, "Give", api.OK, func() api.Errno {
			p.Give(frame)
			return api.OK
		})
	}
	p.Give(1)
	wantUsed(t, p, 0)
	if p.Free.Free() != 7 {
		t.Errorf("%d are free", p.Free.Free())
	}
}

// wantEntry: an entry is just this number.
func wantEntry(t *testing.T, p Purse, table, place int, want uint64) {
	t.Helper()
	if x := word(p, table, place); x != want {
		t.Errorf("entry %d of frame %d is %#x; want %#x", place, table, x, want)
	}
}

// kernelSizes: memories below, at and beyond 2^9 and 2^18 frames, and how many tables of level 2 they need.
var kernelSizes = []struct{ frames, tables int }{
	{2, 1}, {3, 1}, {511, 1}, {512, 1}, {513, 1}, {1024, 1}, {1025, 1},
	{1<<18 - 1, 1}, {1 << 18, 1}, {1<<18 + 1, 2}, {1<<18 + 512, 2}, {1<<18 + 513, 2},
	{2 << 18, 2}, {2<<18 + 1, 3}, {3 << 18, 3}, {3<<18 + 1, 4}, {1<<20 - 1, 4}, {1 << 20, 4},
}

// P9.2, P9.3: Kernel's entries are just those that the chapter says, and what is charged are its tables.
func TestKernelEntries(t *testing.T) {
	const large = 1<<0 | 1<<1 | 1<<7 | 1<<8 | 1<<63
	for _, c := range kernelSizes {
		p := purseOf(t, c.frames, api.Range{From: 0, To: min(c.frames, 9)}, 9)
		for frame := range min(c.frames, 9) {
			put(p, frame, 300, 1<<40) // what they held before may not be seen
		}
		k, e := Kernel(p)
		if e != api.OK {
			t.Fatalf("Kernel of %d frames: %d", c.frames, e)
		}
		wantUsed(t, p, 1+c.tables)
		if len(p.Free.Given()) != 1+c.tables {
			t.Errorf("given: %v", p.Free.Given())
		}
		for n := range 512 {
			if n >= c.tables {
				wantEntry(t, p, k, n, 0)
				continue
			}
			table := int(word(p, k, n) >> 12)
			wantEntry(t, p, k, n, uint64(table)<<12|3)
			for i := range 512 {
				first := n<<18 + i<<9
				if first < c.frames {
					wantEntry(t, p, table, i, uint64(first)<<12|large)
				} else {
					wantEntry(t, p, table, i, 0)
				}
			}
		}
	}
}

// P9.2: by the kernel's part each frame is found, by the kernel alone, and not to be run.
func TestKernelWalk(t *testing.T) {
	base, _ := pte.Join([4]int{256, 0, 0, 0}, 0)
	for _, c := range kernelSizes {
		p := purseOf(t, c.frames, api.Range{From: 0, To: min(c.frames, 9)}, 9)
		if c.frames == 2 {
			p.Free, _ = buddy.New([]api.Range{{From: 0, To: 2}})
			k, _ := Kernel(p)
			if _, e := Root(p, k); e != api.ErrNoMem {
				t.Errorf("Root without a frame: %d", e)
			}
			continue
		}
		_, root := kernelAndRoot(t, p)
		wantUsed(t, p, 2+c.tables)
		for _, f := range []int{0, 1, 2, 255, 511, 512, 513, 1023, 1024, 1<<18 - 1, 1 << 18, 1<<18 + 1, 2<<18 - 1, 2 << 18, 3<<18 + 5, 1<<20 - 1, c.frames - 2, c.frames - 1} {
			if f >= c.frames {
				continue
			}
			addr := base + uint64(f)*4096 + uint64(f)%4096
			want := walk.Found{Frame: f, Perm: api.Perm{Write: true}, Global: true, Large: true}
			x, _, e := walk.Walk(p.RAM, root, addr, api.Access{})
			if x.Dirty = false; e != api.OK || x != want {
				t.Errorf("frame %d of %d: %v, %d", f, c.frames, x, e)
			}
			if _, _, e := walk.Walk(p.RAM, root, addr, api.Access{Write: true}); e != api.OK {
				t.Errorf("a write of frame %d: %d", f, e)
			}
			if _, fault, e := walk.Walk(p.RAM, root, addr, api.Access{User: true}); e != api.ErrFault || fault.Code != 5 {
				t.Errorf("a user's read of frame %d: %v, %d", f, fault, e)
			}
			if _, fault, e := walk.Walk(p.RAM, root, addr, api.Access{Fetch: true}); e != api.ErrFault || fault.Code != 17 {
				t.Errorf("a fetch of frame %d: %v, %d", f, fault, e)
			}
		}
		beyond := base + uint64((c.frames+511)/512*512)*4096
		if _, fault, e := walk.Walk(p.RAM, root, beyond, api.Access{}); e != api.ErrFault || fault.Code != 0 {
			t.Errorf("beyond %d frames: %v, %d", c.frames, fault, e)
		}
	}
}

// P9.3: a Kernel for which there isn't room, at its first table, in its midst, and at its last, changes nothing.
func TestKernelErrors(t *testing.T) {
	kernel := func(p Purse) func() api.Errno {
		return func() api.Errno {
			k, e := Kernel(p)
			if k != 0 {
				t.Errorf("Kernel = %d beside an error", k)
			}
			return e
		}
	}
	for _, frames := range []int{2, 1 << 18, 1<<18 + 1, 1 << 20} {
		need := 1 + (frames+1<<18-1)>>18
		for n := range need {
			p := purseOf(t, frames, api.Range{From: 0, To: min(frames, 9)}, n)
			for frame := range min(frames, 9) {
				put(p, frame, 3, 33)
			}
			refuse(t, p, "Kernel without room", api.ErrQuota, kernel(p))
			p.Tree, _ = quota.New(9)
			p.Free, _ = buddy.New([]api.Range{{From: 0, To: n}, {From: n, To: n + 1}}[:min(n, 1)])
			refuse(t, p, "Kernel without frames", api.ErrNoMem, kernel(p))
			p.Tree, _ = quota.New(n)
			refuse(t, p, "Kernel without room and frames", api.ErrQuota, kernel(p))
		}
	}
	p := purse(t, 9, 9)
	p.Box = 5
	refuse(t, p, "Kernel for nobody", api.ErrNone, kernel(p))
}

// P9.1, P9.3: a root is zeros but for the kernel's entry; one that is refused changes nothing.
func TestRoot(t *testing.T) {
	p := purse(t, 9, 4)
	for frame := 1; frame < 9; frame++ {
		put(p, frame, 256, 1<<40|1)
		put(p, frame, 5, 5)
	}
	k, root := kernelAndRoot(t, p)
	wantUsed(t, p, 3)
	for place := range 512 {
		want := uint64(0)
		if place == Direct {
			want = uint64(k)<<12 | 3
		}
		wantEntry(t, p, root, place, want)
	}
	wantPages(t, p, root)
	other := newRoot(t, p, k)
	wantUsed(t, p, 4)
	if other == root || word(p, other, 256) != word(p, root, 256) {
		t.Errorf("another root: %d, %#x", other, word(p, other, 256))
	}
	root2 := func() api.Errno {
		r, e := Root(p, k)
		if r != 0 {
			t.Errorf("Root = %d beside an error", r)
		}
		return e
	}
	refuse(t, p, "Root without room", api.ErrQuota, root2)
	p.Free, _ = buddy.New(nil)
	refuse(t, p, "Root without room and frames", api.ErrQuota, root2)
	p.Tree, _ = quota.New(5)
	refuse(t, p, "Root without frames", api.ErrNoMem, root2)
}

// P9.1: Map's errors, each ahead of those behind it.
func TestMapErrors(t *testing.T) {
	p := purse(t, 12, 9)
	_, root := kernelAndRoot(t, p)
	mapPage(t, p, root, 5, 9, read, 6)
	tryMap := func(page, frame int, want api.Errno) {
		t.Helper()
		refuse(t, p, "Map", want, func() api.Errno { return Map(p, root, page, frame, all) })
	}
	oddFrames := []int{math.MinInt, -1 << 20, -1, 1 << 20, 1<<20 + 1, 1 << 40, math.MaxInt}
	for range 2 {
		for _, page := range oddPages {
			tryMap(page, 1, api.ErrArg)
			for _, frame := range oddFrames {
				tryMap(page, frame, api.ErrArg)
			}
		}
		for _, frame := range oddFrames {
			tryMap(0, frame, api.ErrArg)
			tryMap(5, frame, api.ErrArg)
			tryMap(1<<30, frame, api.ErrArg)
		}
		tryMap(5, 9, api.ErrThere)
		tryMap(5, 0, api.ErrThere)
		for p.Tree.Room(0) > 0 { // once more without room
			p.Take()
		}
	}
	tryMap(1<<30, 1, api.ErrQuota)
	p.Free, _ = buddy.New(nil)
	tryMap(1<<30, 1, api.ErrQuota)
	p.Tree, _ = quota.New(9)
	tryMap(1<<30, 1, api.ErrNoMem)
	tryMap(5, 1, api.ErrThere)
	p.Box = 9
	tryMap(1<<30, 1, api.ErrNone)
	// A page whose tables are there needs no frame.
	if e := Map(p, root, 6, 1, all); e != api.OK {
		t.Errorf("Map beside another page: %d", e)
	}
}

// P9.3: a Map that is refused behind its first, second or third table leaves all as it was, the bytes of frames too.
func TestMapRefusedOnItsWay(t *testing.T) {
	for missing := 1; missing <= 3; missing++ {
		for had := range missing {
			p := purse(t, 20, 20)
			_, root := kernelAndRoot(t, p)
			mapPage(t, p, root, 0, 19, read, 6)
			for frame := 7; frame < 20; frame++ {
				put(p, frame, 9, 99)
			}
			page := 1 << (9 * missing)
			for p.Tree.Room(0) > had {
				p.Tree.Charge(0, 1)
			}
			refuse(t, p, "Map without room", api.ErrQuota, func() api.Errno { return Map(p, root, page, 1, read) })
			p.Tree.Credit(0, missing-had)
			for p.Free.Free() > had {
				p.Free.Take(0)
			}
			refuse(t, p, "Map without frames", api.ErrNoMem, func() api.Errno { return Map(p, root, page, 1, read) })
			wantPages(t, p, root, 0)
			wantNowhere(t, p, root, page)
		}
	}
}

// P9.1, P9.2: the edges of pages and frames, and all uses.
func TestMapEdges(t *testing.T) {
	p := purse(t, 60, 60)
	_, root := kernelAndRoot(t, p)
	frames := []int{0, 1, 59, 60, 1 << 19, 1<<20 - 1}
	for i, page := range []int{0, top - 1} {
		for n := range 8 {
			m := api.Perm{Write: n&1 != 0, User: n&2 != 0, Exec: n&4 != 0}
			frame := frames[(n+i)%len(frames)]
			mapPage(t, p, root, page, frame, m, 6)
			wantQuery(t, p, root, page, frame, m)
			wantPages(t, p, root, page)
			unmapPage(t, p, root, page, frame, 3)
			wantNowhere(t, p, root, page)
			wantPages(t, p, root)
		}
	}
	for _, page := range oddPages {
		wantNowhere(t, p, root, page)
	}
}

// P9.1: the entries on the way are just those that the chapter says.
func TestMapEntries(t *testing.T) {
	p := purse(t, 20, 20)
	_, root := kernelAndRoot(t, p)
	page := 3<<27 | 5<<18 | 7<<9 | 511
	mapPage(t, p, root, page, 0xabcde, api.Perm{Write: true}, 6)
	table := root
	for _, place := range []int{3, 5, 7} {
		x := word(p, table, place)
		wantEntry(t, p, table, place, x>>12<<12|7)
		if x>>12 == 0 || x>>12 >= 20 {
			t.Fatalf("entry %d leads to %#x", place, x)
		}
		table = int(x >> 12)
	}
	wantEntry(t, p, table, 511, 0xabcde<<12|3|1<<63)
	Protect(p, root, page, api.Perm{User: true, Exec: true})
	wantEntry(t, p, table, 511, 0xabcde<<12|5)
	Protect(p, root, page, all)
	wantEntry(t, p, table, 511, 0xabcde<<12|7)
	walk.Walk(p.RAM, root, uint64(page)*4096, api.Access{Write: true})
	wantEntry(t, p, table, 511, 0xabcde<<12|7|1<<5|1<<6)
	// Written anew: what the walk has marked is gone.
	Protect(p, root, page, all)
	wantEntry(t, p, table, 511, 0xabcde<<12|7)
}

// P9.3: pages that share three tables, two, one and none; they are given back as soon as nothing is behind them.
func TestSharedTables(t *testing.T) {
	p := purse(t, 40, 40)
	_, root := kernelAndRoot(t, p)
	start := stateOf(p)
	mapPage(t, p, root, 0, 30, read, 6)
	mapPage(t, p, root, 1, 31, write, 6)
	mapPage(t, p, root, 511, 32, all, 6)
	mapPage(t, p, root, 512, 33, read, 7)
	mapPage(t, p, root, 1<<18, 34, read, 9)
	mapPage(t, p, root, 1<<27, 35, read, 12)
	mapPage(t, p, root, 1<<27+1, 36, read, 12)
	wantPages(t, p, root, 0, 1, 511, 512, 1<<18, 1<<27, 1<<27+1)
	for i, page := range Pages(p, root) {
		f, _, ok := Query(p, root, page)
		if !ok || f != 30+i {
			t.Errorf("page %d leads to %d, %v", page, f, ok)
		}
	}
	for _, page := range []int{2, 510, 513, 1023, 1024, 1<<18 - 1, 1<<18 + 1, 1<<27 - 1, 1<<27 + 2, 2 << 27, top - 1} {
		wantNowhere(t, p, root, page)
	}
	unmapPage(t, p, root, 1, 31, 12)
	unmapPage(t, p, root, 512, 33, 11)
	unmapPage(t, p, root, 1<<27, 35, 11)
	unmapPage(t, p, root, 1<<27+1, 36, 8)
	unmapPage(t, p, root, 0, 30, 8)
	wantPages(t, p, root, 511, 1<<18)
	unmapPage(t, p, root, 511, 32, 6)
	wantQuery(t, p, root, 1<<18, 34, read)
	unmapPage(t, p, root, 1<<18, 34, 3)
	if !same(stateOf(p), start) {
		t.Error("when all is unmapped, all isn't as at the beginning")
	}
}

// P9.3: tables go back though walks have marked the entries that led to them.
func TestUnmapBehindWalks(t *testing.T) {
	p := purse(t, 20, 20)
	_, root := kernelAndRoot(t, p)
	mapPage(t, p, root, 700, 9, write, 6)
	for range 2 {
		if _, _, e := walk.Walk(p.RAM, root, 700*4096, api.Access{Write: true, User: true}); e != api.OK {
			t.Fatalf("Walk: %d", e)
		}
	}
	unmapPage(t, p, root, 700, 9, 3)
	wantNowhere(t, p, root, 700)
}

// P9.1: Protect and Unmap of pages that lead nowhere, and of numbers that are no page.
func TestNone(t *testing.T) {
	p := purse(t, 20, 20)
	_, root := kernelAndRoot(t, p)
	mapPage(t, p, root, 5, 9, read, 6)
	for _, page := range append([]int{0, 4, 6, 517, 5 + 1<<18, 5 + 1<<27, top - 1}, oddPages...) {
		refuse(t, p, "Protect", api.ErrNone, func() api.Errno { return Protect(p, root, page, all) })
		refuse(t, p, "Unmap", api.ErrNone, func() api.Errno {
			f, e := Unmap(p, root, page)
			if f != 0 {
				t.Errorf("Unmap(%d) = %d beside an error", page, f)
			}
			return e
		})
		wantNowhere(t, p, root, page)
	}
	wantQuery(t, p, root, 5, 9, read)
}

// P9.1: Protect of one page leaves those beside it, and what is charged.
func TestProtect(t *testing.T) {
	p := purse(t, 20, 20)
	_, root := kernelAndRoot(t, p)
	for page := 4; page < 7; page++ {
		mapPage(t, p, root, page, 10+page, read, 6)
	}
	for n := range 8 {
		m := api.Perm{Write: n&1 != 0, User: n&2 != 0, Exec: n&4 != 0}
		if e := Protect(p, root, 5, m); e != api.OK {
			t.Errorf("Protect: %d", e)
		}
		wantQuery(t, p, root, 5, 15, m)
		wantQuery(t, p, root, 4, 14, read)
		wantQuery(t, p, root, 6, 16, read)
		wantUsed(t, p, 6)
	}
}

// P9.1, P9.3: Drop with pages is refused, without them the root is free.
func TestDrop(t *testing.T) {
	for _, page := range []int{0, 1, 1 << 20, top - 1} {
		p := purse(t, 20, 20)
		k, e := Kernel(p)
		if e != api.OK {
			t.Fatal(e)
		}
		start := stateOf(p)
		root := newRoot(t, p, k)
		mapPage(t, p, root, page, 9, read, 6)
		refuse(t, p, "Drop", api.ErrBusy, func() api.Errno { return Drop(p, root) })
		unmapPage(t, p, root, page, 9, 3)
		if e := Drop(p, root); e != api.OK {
			t.Errorf("Drop: %d", e)
		}
		wantUsed(t, p, 2)
		if !sameFree(stateOf(p), start) {
			t.Errorf("given: %v", p.Free.Given())
		}
	}
}

// P9.1: what is answered is new memory.
func TestPagesIsNew(t *testing.T) {
	p := purse(t, 20, 20)
	_, root := kernelAndRoot(t, p)
	mapPage(t, p, root, 5, 9, read, 6)
	mapPage(t, p, root, 8, 9, read, 6)
	first, second := Pages(p, root), Pages(p, root)
	first[0], first[1] = 77, 78
	_ = append(first[:1], 79)
	if !slices.Equal(second, []int{5, 8}) {
		t.Errorf("a change of one answer shows in another: %v", second)
	}
	wantPages(t, p, root, 5, 8)
}

// leads is what the plain model has of a page.
type leads struct {
	frame int
	perm  api.Perm
}

// plain is a root, with the map from pages that stands for it.
type plain struct {
	p     Purse
	root  int
	pages map[int]leads
}

// tables: how many the root has, itself among them.
func (x plain) tables() int {
	seen := map[[2]int]int{}
	for page := range x.pages {
		for level := 1; level <= 3; level++ {
			seen[[2]int{level, page >> (9 * level)}]++
		}
	}
	return 1 + len(seen)
}

// missing: how many tables a page would need more.
func (x plain) missing(page int) int {
	with := plain{pages: maps.Clone(x.pages)}
	with.pages[page] = leads{}
	return with.tables() - x.tables()
}

// step: one call by chance, of the root and of the model.
func (x plain) step(t *testing.T, rnd *rand.Rand, places []int, told map[api.Errno]int) {
	t.Helper()
	page := places[rnd.Intn(len(places))]
	n, frame := rnd.Intn(8), rnd.Intn(1<<20)
	m := api.Perm{Write: n&1 != 0, User: n&2 != 0, Exec: n&4 != 0}
	was, there := x.pages[page]
	before := stateOf(x.p)
	want, got := api.OK, api.OK
	switch rnd.Intn(4) {
	case 0, 1:
		room, free := x.p.Tree.Room(x.p.Box), x.p.Free.Free()
		switch need := x.missing(page); {
		case there:
			want = api.ErrThere
		case need > room && room <= free:
			want = api.ErrQuota
		case need > free:
			want = api.ErrNoMem
		default:
			x.pages[page] = leads{frame, m}
		}
		got = Map(x.p, x.root, page, frame, m)
	case 2:
		if !there {
			want = api.ErrNone
		} else {
			x.pages[page] = leads{was.frame, m}
		}
		got = Protect(x.p, x.root, page, m)
	default:
		if !there {
			want = api.ErrNone
		}
		delete(x.pages, page)
		var f int
		if f, got = Unmap(x.p, x.root, page); f != was.frame {
			t.Errorf("Unmap(%d) = %d; want %d", page, f, was.frame)
		}
	}
	told[want]++
	if got != want {
		t.Fatalf("page %d: %d; want %d", page, got, want)
	}
	if want != api.OK && !same(stateOf(x.p), before) {
		t.Fatalf("page %d: a call with error %d has changed something", page, want)
	}
}

// check: the root is as the model is.
func (x plain) check(t *testing.T, places []int) {
	t.Helper()
	if got := Pages(x.p, x.root); !slices.Equal(got, slices.Sorted(maps.Keys(x.pages))) {
		t.Fatalf("Pages = %v; want %v", got, x.pages)
	}
	for _, page := range places {
		if l, there := x.pages[page]; there {
			wantQuery(t, x.p, x.root, page, l.frame, l.perm)
		} else {
			wantNowhere(t, x.p, x.root, page)
		}
	}
	wantUsed(t, x.p, x.tables())
}

// P9.1, P9.2, P9.3: two roots with two purses beside one another, behind any calls, as plain maps have it.
func TestModel(t *testing.T) {
	places := []int{0, 1, 2, 511, 512, 513, 1023, 1024, 1 << 18, 1<<18 + 1, 1<<18 + 512, 1<<27 - 1, 1 << 27, 1<<27 + 511, 3 << 27, 3<<27 + 1<<18, top - 512, top - 2, top - 1}
	told := map[api.Errno]int{}
	for seed := range int64(16) {
		rnd := rand.New(rand.NewSource(seed))
		frames := 22 + rnd.Intn(16)
		p := purse(t, frames, 100)
		for frame := range frames {
			put(p, frame, rnd.Intn(512), rnd.Uint64())
		}
		k, e := Kernel(p)
		if e != api.OK {
			t.Fatalf("Kernel: %d", e)
		}
		start := stateOf(p)
		var two []plain
		for _, may := range []int{6 + rnd.Intn(20), 20 + rnd.Intn(50)} {
			q := p
			q.Box, _ = p.Tree.Child(0, may)
			two = append(two, plain{q, newRoot(t, q, k), map[int]leads{}})
		}
		for range 70 {
			two[rnd.Intn(2)].step(t, rnd, places, told)
			two[0].check(t, places)
			two[1].check(t, places)
			wantUsed(t, p, 2)
			if got := len(p.Free.Given()); got != 2+two[0].tables()+two[1].tables() {
				t.Fatalf("%d frames are given", got)
			}
		}
		for _, x := range two {
			for page := range x.pages {
				Unmap(x.p, x.root, page)
			}
			if e := Drop(x.p, x.root); e != api.OK {
				t.Errorf("Drop: %d", e)
			}
			wantUsed(t, x.p, 0)
		}
		if !sameFree(stateOf(p), start) {
			t.Error("when both roots are gone, other frames are free than at the beginning")
		}
	}
	for _, e := range []api.Errno{api.OK, api.ErrThere, api.ErrNone, api.ErrQuota, api.ErrNoMem} {
		if told[e] < 20 {
			t.Errorf("error %d was had %d times only", e, told[e])
		}
	}
}
