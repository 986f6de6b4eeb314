package space

import (
	"fmt"
	"hash/fnv"
	"math"
	"slices"
	"testing"

	"demesne/api"
	"demesne/bootmap"
	"demesne/buddy"
	"demesne/quota"
	"demesne/tlb"
)

// The uses and accesses that the tests take.
var (
	read  = api.Perm{User: true}
	write = api.Perm{Write: true, User: true}
	exec  = api.Perm{User: true, Exec: true}
	whole = api.Perm{Write: true, User: true, Exec: true}

	loads  = api.Access{User: true}
	stores = api.Access{Write: true, User: true}
)

const top = 1 << 35

// odd: numbers that are neither spaces nor containers nor pages in the tests.
var odd = []int{math.MinInt, math.MinInt + 1, -1 << 40, -512, -1, top, top + 1, 1 << 48, 1 << 52, math.MaxInt - 1, math.MaxInt}

// area: an entry of a boot map, by its bytes.
func area(from, length uint64, kind byte) []byte {
	s := make([]byte, bootmap.Size)
	for i := range 8 {
		s[i], s[8+i] = byte(from>>(8*i)), byte(length>>(8*i))
	}
	s[16] = kind
	return s
}

// areas: usable frames, by their first and their last but one.
func areas(ends ...int) []byte {
	var s []byte
	for i := 0; i < len(ends); i += 2 {
		s = append(s, area(uint64(ends[i])*4096, uint64(ends[i+1]-ends[i])*4096, bootmap.Usable)...)
	}
	return s
}

func planOf(frames int) Plan {
	return Plan{Frames: frames, Kernel: api.Range{From: 0, To: 1}, Tags: 3, Map: areas(0, frames)}
}

// boot: a machine of so many frames, the first the kernel's.
func boot(t *testing.T, frames int) *Machine {
	t.Helper()
	m, e := Boot(planOf(frames))
	if m == nil || e != api.OK {
		t.Fatalf("Boot: %d", e)
	}
	return m
}

// pages: a range.
func pages(from, to int) api.Range {
	return api.Range{From: from, To: to}
}

// must: a call answers OK.
func must(t *testing.T, what string, e api.Errno) {
	t.Helper()
	if e != api.OK {
		t.Fatalf("%s: %d", what, e)
	}
}

// touch: a page leads to a frame, without an error.
func touch(t *testing.T, m *Machine, id, page int, a api.Access) int {
	t.Helper()
	frame, code, e := m.Touch(id, page, a)
	if code != 0 || e != api.OK {
		t.Fatalf("Touch(%d, %d) = %d, %d, %d", id, page, frame, code, e)
	}
	return frame
}

// child: a container more, out of the root's.
func child(t *testing.T, m *Machine, may int) int {
	t.Helper()
	box, e := m.Tree.Child(0, may)
	must(t, "Child", e)
	return box
}

// wantTouch: what Touch answers of an access that is refused.
func wantTouch(t *testing.T, m *Machine, id, page int, a api.Access, code int, want api.Errno) {
	t.Helper()
	refuse(t, m, fmt.Sprintf("Touch(%d, %d, %+v)", id, page, a), want, func() api.Errno {
		frame, got, e := m.Touch(id, page, a)
		if frame != 0 || got != code {
			t.Errorf("Touch(%d, %d, %+v) = %d, %d, %d; want code %d", id, page, a, frame, got, e, code)
		}
		return e
	})
}

func wantUsed(t *testing.T, m *Machine, box, used int) {
	t.Helper()
	if n, _ := m.Tree.Get(box); n.Used != used {
		t.Errorf("Used of %d is %d; want %d", box, n.Used, used)
	}
}

func wantPages(t *testing.T, m *Machine, id int, want ...int) {
	t.Helper()
	if got := m.Pages(id); !slices.Equal(got, want) {
		t.Errorf("Pages(%d) = %v; want %v", id, got, want)
	}
}

// wantRegions: a space's regions, by what is printed of them.
func wantRegions(t *testing.T, m *Machine, id int, want string) {
	t.Helper()
	var got string
	for _, r := range m.Regions(id) {
		got += fmt.Sprintf("%d-%d", r.Pages.From, r.Pages.To)
		for i, flag := range []bool{r.Perm.Write, r.Perm.User, r.Perm.Exec} {
			if flag {
				got += "wux"[i : i+1]
			}
		}
		if r.Kind == Borrowed {
			got += "!"
		}
		got += " "
	}
	if got != want {
		t.Errorf("Regions(%d): %s; want %s", id, got, want)
	}
}

func wantLines(t *testing.T, m *Machine, want ...tlb.Line) {
	t.Helper()
	if got := m.TLB.Lines(); !slices.Equal(got, want) {
		t.Errorf("lines: %v; want %v", got, want)
	}
}

func wantStale(t *testing.T, m *Machine, want ...tlb.Line) {
	t.Helper()
	if got := m.Stale(); !slices.Equal(got, want) {
		t.Errorf("Stale() = %v; want %v", got, want)
	}
}

// bytesOf: a number that stands for all bytes of the memory.
func bytesOf(m *Machine) uint64 {
	h := fnv.New64a()
	for frame := range m.RAM.Frames() {
		if m.RAM.Clear(frame) {
			continue
		}
		s := make([]byte, 0, 8*513)
		for place := range 513 {
			x := uint64(frame)
			if place < 512 {
				x, _ = m.RAM.Load(uint64(frame)*4096+uint64(place)*8, 8)
			}
			for i := range 8 {
				s = append(s, byte(x>>(8*i)))
			}
		}
		h.Write(s)
	}
	return h.Sum64()
}

// stateOf: all that a call could have changed, as a text (in which a list that is nil and an empty one are the same).
func stateOf(m *Machine) string {
	text := fmt.Sprint(bytesOf(m), freeOf(m), m.Tree.Live(), m.TLB.Lines(), *m.Tags, m.Stale())
	for _, i := range m.Tree.Live() {
		n, _ := m.Tree.Get(i)
		text += fmt.Sprint("\n", i, n)
	}
	for _, id := range m.Spaces() {
		root, ok := m.Root(id)
		text += fmt.Sprint("\n", id, root, ok, m.Regions(id), m.Pages(id), *m.spaces[id])
	}
	return text
}

// freeOf: the blocks that are free, and given.
func freeOf(m *Machine) string {
	var free [api.MaxOrder + 1][]int
	for order := range free {
		free[order] = m.Free.Blocks(order)
	}
	return fmt.Sprint(free, m.Free.Given())
}

// refuse: a call answers this error, and leaves all as it was, to the bytes of free frames.
func refuse(t *testing.T, m *Machine, what string, want api.Errno, f func() api.Errno) {
	t.Helper()
	before := stateOf(m)
	if e := f(); e != want {
		t.Errorf("%s: %d; want %d", what, e, want)
	}
	if after := stateOf(m); after != before {
		t.Errorf("%s has changed something:\n%s\n%s", what, before, after)
	}
}

// soil: all free frames have bytes that aren't 0.
func soil(m *Machine) {
	for order := range api.MaxOrder + 1 {
		for _, at := range m.Free.Blocks(order) {
			for frame := at; frame < at+1<<order; frame++ {
				for place := range 512 {
					m.RAM.Store(uint64(frame)*4096+uint64(place)*8, 8, math.MaxUint64-uint64(place))
				}
			}
		}
	}
}

// P12.1, P12.2: the chapter's example.
func TestExample(t *testing.T) {
	m := boot(t, 40)
	wantUsed(t, m, 0, 2)
	must(t, "Open", m.Open(1, 0))
	must(t, "Map", m.Map(1, pages(0, 4), write))
	wantUsed(t, m, 0, 3)
	frame := touch(t, m, 1, 2, stores)
	if m.Free.Order(frame) != 0 {
		t.Errorf("frame %d isn't given", frame)
	}
	wantUsed(t, m, 0, 2+5)
	wantTouch(t, m, 1, 9, stores, 6, api.ErrFault)
	must(t, "Unmap", m.Unmap(1, pages(0, 4)))
	wantUsed(t, m, 0, 2+1)
}

// P12.1: what a machine is behind Boot.
func TestBoot(t *testing.T) {
	p := Plan{Frames: 40, Kernel: pages(0, 1), Tags: 4095, Map: append(areas(0, 30), area(0x3001, 1, 2)...)}
	m, e := Boot(p)
	must(t, "Boot", e)
	if m.RAM.Frames() != 40 || !m.RAM.Has(0) || !m.RAM.Has(3) || !m.RAM.Has(39) {
		t.Error("the memory")
	}
	if m.Free.Free() != 26 || m.Free.Order(1) != 0 {
		t.Errorf("%d are free; the kernel's tables are %v", m.Free.Free(), m.Free.Given())
	}
	if n, _ := m.Tree.Get(0); n != (quota.Node{Parent: -1, Quota: 28, Used: 2, Live: true}) || len(m.Tree.Live()) != 1 {
		t.Errorf("the root: %+v", n)
	}
	if len(m.TLB.Lines()) != 0 || m.Tags.Generation() != 0 || len(m.Spaces()) != 0 || len(m.Stale()) != 0 {
		t.Error("it isn't empty")
	}
	for i := range 4095 {
		if tag := m.Tag(i); tag != i+1 {
			t.Fatalf("Tag(%d) = %d", i, tag)
		}
	}
	if tag := m.Tag(5000); tag != 1 {
		t.Errorf("Tag = %d", tag)
	}
}

// P12.1: a machine of more than 2^18 frames has three tables of the kernel's.
func TestBootGreat(t *testing.T) {
	for _, c := range []struct{ frames, tables int }{{3, 2}, {1 << 18, 2}, {1<<18 + 1, 3}, {1 << 20, 5}} {
		m, e := Boot(Plan{Frames: c.frames, Kernel: pages(0, 0), Tags: 1, Map: areas(0, c.frames)})
		must(t, "Boot", e)
		wantUsed(t, m, 0, c.tables)
		if m.Free.Free() != c.frames-c.tables {
			t.Errorf("%d frames: %d are free", c.frames, m.Free.Free())
		}
	}
}

// manyRanges: a map of 64 areas by which 64 ranges of frames may be used; one more, if the kernel parts one of them.
func manyRanges() []byte {
	s := areas(0, 200)
	for i := range 63 {
		s = append(s, area(uint64(3*i+2)*4096, 1, 2)...)
	}
	return s
}

// P12.1: each error of Boot, in its order.
func TestBootErrors(t *testing.T) {
	good := planOf(40)
	for i, c := range []struct {
		change func(p *Plan)
		want   api.Errno
	}{
		{func(p *Plan) {}, api.OK},
		{func(p *Plan) { p.Frames = 0 }, api.ErrArg},
		{func(p *Plan) { p.Frames = math.MinInt }, api.ErrArg},
		{func(p *Plan) { p.Frames = 1<<20 + 1 }, api.ErrArg},
		{func(p *Plan) { p.Frames = math.MaxInt }, api.ErrArg},
		{func(p *Plan) { p.Kernel = pages(-1, 1) }, api.ErrArg},
		{func(p *Plan) { p.Kernel = pages(2, 1) }, api.ErrArg},
		{func(p *Plan) { p.Kernel = pages(0, 41) }, api.ErrArg},
		{func(p *Plan) { p.Map = make([]byte, 1281) }, api.ErrBig},
		{func(p *Plan) { p.Map = make([]byte, 19) }, api.ErrEnd},
		{func(p *Plan) { p.Map = area(1<<63, 1<<63, 1) }, api.ErrForm},
		{func(p *Plan) { p.Map = nil }, api.ErrNoMem},
		{func(p *Plan) { p.Kernel = pages(0, 40) }, api.ErrNoMem},
		{func(p *Plan) { p.Map, p.Tags = make([]byte, 19), 0 }, api.ErrEnd},
		{func(p *Plan) { p.Map, p.Tags = nil, 0 }, api.ErrNoMem},
		{func(p *Plan) { p.Tags = 0 }, api.ErrArg},
		{func(p *Plan) { p.Tags = -1 }, api.ErrArg},
		{func(p *Plan) { p.Tags = 4096 }, api.ErrArg},
		{func(p *Plan) { p.Tags = 1 }, api.OK},
		{func(p *Plan) { p.Tags = 4095 }, api.OK},
		{func(p *Plan) { *p = Plan{Frames: 200, Kernel: pages(195, 196), Tags: 1, Map: manyRanges()} }, api.ErrBig},
		{func(p *Plan) { *p = Plan{Frames: 200, Kernel: pages(0, 1), Tags: 1, Map: manyRanges()} }, api.OK},
		{func(p *Plan) { *p = Plan{Frames: 200, Kernel: pages(195, 196), Tags: 0, Map: manyRanges()} }, api.ErrArg},
		{func(p *Plan) { p.Frames = 2 }, api.ErrQuota},
		{func(p *Plan) { p.Frames, p.Tags = 2, 0 }, api.ErrArg},
		{func(p *Plan) { p.Frames = 3 }, api.OK},
		{func(p *Plan) { p.Map = areas(5, 7) }, api.OK},
		{func(p *Plan) { p.Map, p.Frames = areas(5, 7), 1<<18+1 }, api.ErrQuota},
	} {
		p := good
		c.change(&p)
		m, e := Boot(p)
		if e != c.want || (m == nil) != (e != api.OK) {
			t.Errorf("%d: Boot = %v, %d; want %d", i, m, e, c.want)
		}
	}
	if usable, e := bootmap.Frames(manyRanges(), 200, pages(195, 196)); len(usable) != 65 || e != api.OK {
		t.Errorf("%d ranges, %d", len(usable), e)
	} else if _, e := buddy.New(usable); e != api.ErrBig {
		t.Errorf("buddy.New: %d", e)
	}
}

// P12.1: each error of Open, in its order.
func TestOpen(t *testing.T) {
	m := boot(t, 40)
	soil(m)
	poor, full := child(t, m, 0), child(t, m, 1)
	must(t, "Open", m.Open(7, full))
	wantUsed(t, m, full, 1)
	for _, c := range []struct {
		id, box int
		want    api.Errno
	}{
		{-1, 0, api.ErrArg},
		{math.MinInt, 99, api.ErrArg},
		{7, 0, api.ErrThere},
		{7, 99, api.ErrThere},
		{8, 99, api.ErrNone},
		{8, -1, api.ErrNone},
		{8, 3, api.ErrNone},
		{8, math.MinInt, api.ErrNone},
		{8, math.MaxInt, api.ErrNone},
		{8, poor, api.ErrQuota},
		{8, full, api.ErrQuota},
	} {
		refuse(t, m, fmt.Sprintf("Open(%d, %d)", c.id, c.box), c.want, func() api.Errno {
			return m.Open(c.id, c.box)
		})
	}
	must(t, "Open", m.Open(math.MaxInt, 0))
	must(t, "Open", m.Open(0, 0))
	if got := m.Spaces(); !slices.Equal(got, []int{0, 7, math.MaxInt}) {
		t.Errorf("Spaces() = %v", got)
	}
	wantUsed(t, m, 0, 4)
	for _, id := range m.Spaces() {
		root, ok := m.Root(id)
		if !ok || m.Free.Order(root) != 0 || len(m.Regions(id)) != 0 || len(m.Pages(id)) != 0 {
			t.Errorf("space %d: %d, %v, %v, %v", id, root, ok, m.Regions(id), m.Pages(id))
		}
		wantKernel(t, m, root)
	}
}

// wantKernel: a root has the kernel's tables.
func wantKernel(t *testing.T, m *Machine, root int) {
	t.Helper()
	if x, _ := m.RAM.Load(uint64(root)*4096+256*8, 8); x != uint64(m.kernel)<<12|3 {
		t.Errorf("root %d: its entry 256 is %x", root, x)
	}
}

// P12.1: of a space when the Buddy has no frame, though the container may have one.
func TestOpenNoFrame(t *testing.T) {
	m := boot(t, 40)
	for m.Free.Free() > 0 {
		m.Free.Take(0)
	}
	refuse(t, m, "Open", api.ErrNoMem, func() api.Errno { return m.Open(1, 0) })
}

// P12.1, P1: each call with a space that is none.
func TestNoSpace(t *testing.T) {
	m := boot(t, 40)
	must(t, "Open", m.Open(1, 0))
	must(t, "Open", m.Open(2, 0))
	must(t, "Map", m.Map(1, pages(0, 4), whole))
	touch(t, m, 1, 0, stores)
	must(t, "Lend", m.Lend(1, 0, 2, 5, read))
	for _, id := range append([]int{0, 3}, odd...) {
		for i, f := range []func() api.Errno{
			func() api.Errno { return m.Map(id, pages(0, 4), read) },
			func() api.Errno { return m.Map(id, pages(4, 0), read) },
			func() api.Errno { return m.Unmap(id, pages(0, 4)) },
			func() api.Errno { return m.Unmap(id, pages(4, 0)) },
			func() api.Errno { return m.Protect(id, pages(0, 4), read) },
			func() api.Errno { return m.Protect(id, pages(4, 0), read) },
			func() api.Errno { return m.Lendable(id, 0, false) },
			func() api.Errno { return m.Lend(id, 0, 2, 9, read) },
			func() api.Errno { return m.Lend(1, 0, id, 9, read) },
			func() api.Errno { return m.Lend(1, 0, id, -1, read) },
			func() api.Errno { return m.Back(id, 0, 2, 5) },
			func() api.Errno { return m.Back(1, 0, id, 5) },
			func() api.Errno { return m.Close(id) },
		} {
			refuse(t, m, fmt.Sprintf("call %d of space %d", i, id), api.ErrNone, f)
		}
		wantTouch(t, m, id, 0, loads, 0, api.ErrNone)
		if root, ok := m.Root(id); root != 0 || ok {
			t.Errorf("Root(%d) = %d, %v", id, root, ok)
		}
		if len(m.Regions(id)) != 0 || len(m.Pages(id)) != 0 {
			t.Errorf("space %d has %v, %v", id, m.Regions(id), m.Pages(id))
		}
	}
}

// P12.1, P12.4: Close of a space with lent pages, with borrowed ones, and with neither.
func TestClose(t *testing.T) {
	m := boot(t, 40)
	free := freeOf(m)
	box := child(t, m, 12)
	must(t, "Open", m.Open(1, box))
	must(t, "Open", m.Open(2, 0))
	must(t, "Open", m.Open(3, 0))
	must(t, "Map", m.Map(1, pages(0, 4), write))
	must(t, "Map", m.Map(1, pages(top-1, top), read))
	for _, page := range []int{1, 3, top - 1} {
		touch(t, m, 1, page, loads)
	}
	must(t, "Lend", m.Lend(1, 3, 2, top-1, write))
	wantUsed(t, m, box, 1+6+3)
	wantUsed(t, m, 0, 2+1+3+1)
	for id := 1; id <= 2; id++ {
		refuse(t, m, "Close", api.ErrBusy, func() api.Errno { return m.Close(id) })
	}
	must(t, "Close", m.Close(3))
	refuse(t, m, "Close", api.ErrNone, func() api.Errno { return m.Close(3) })
	must(t, "Back", m.Back(1, 3, 2, top-1))
	must(t, "Close", m.Close(1))
	wantUsed(t, m, box, 0)
	must(t, "Close", m.Close(2))
	wantUsed(t, m, 0, 2)
	must(t, "End", m.Tree.End(box))
	if freeOf(m) != free || len(m.Spaces()) != 0 {
		t.Errorf("all are gone: %s; want %s", freeOf(m), free)
	}
	must(t, "Open", m.Open(1, 0))
	if len(m.Regions(1)) != 0 || len(m.Pages(1)) != 0 {
		t.Error("a new space has what an older one of its number had")
	}
}

// P2 (K3): what is answered is new memory, and what is handed in isn't kept.
func TestNewMemory(t *testing.T) {
	s := append(areas(0, 40), 1, 2, 3)
	p := planOf(40)
	p.Map = s[:20]
	m, e := Boot(p)
	must(t, "Boot", e)
	if !slices.Equal(s, append(areas(0, 40), 1, 2, 3)) {
		t.Error("Boot has changed the map")
	}
	clear(s)
	must(t, "Open", m.Open(1, 0))
	must(t, "Open", m.Open(2, 0))
	must(t, "Map", m.Map(1, pages(0, 4), write))
	must(t, "Map", m.Map(1, pages(6, 9), write))
	touch(t, m, 1, 0, stores)
	touch(t, m, 1, 7, stores)
	must(t, "Fill", m.TLB.Fill(0, tlb.Line{Valid: true, Tag: 3, Page: 1, Frame: 1}))
	before := stateOf(m)
	clear(m.Regions(1))
	clear(m.Pages(1))
	clear(m.Spaces())
	clear(m.Stale())
	_ = append(m.Regions(1)[:1], m.Regions(1)[0])
	if stateOf(m) != before {
		t.Error("an answer shares memory with the machine")
	}
	list := m.Regions(1)
	must(t, "Protect", m.Protect(1, pages(0, 4), read))
	if list[0].Perm != write {
		t.Error("the machine has changed an answer")
	}
}

// P2 (K3, K4): two machines behind the same calls are the same, and nobody else's.
func TestApart(t *testing.T) {
	a, b := boot(t, 40), boot(t, 40)
	calls := func(m *Machine) {
		must(t, "Open", m.Open(1, 0))
		must(t, "Map", m.Map(1, pages(0, 9), write))
		for page := range 9 {
			touch(t, m, 1, page, stores)
		}
		m.Tag(1)
		must(t, "Unmap", m.Unmap(1, pages(2, 5)))
		must(t, "Close", m.Close(1))
		must(t, "Open", m.Open(2, 0))
	}
	fresh := stateOf(b)
	calls(a)
	if stateOf(b) != fresh {
		t.Error("a machine has changed another one")
	}
	calls(b)
	if stateOf(a) != stateOf(b) {
		t.Error("the same calls are answered otherwise")
	}
}
