package cpu

import (
	"fmt"
	"hash/fnv"
	"math"
	"slices"
	"testing"

	"demesne/api"
	"demesne/bootmap"
	"demesne/space"
	"demesne/tlb"
)

// The uses that the tests take.
var (
	read  = api.Perm{User: true}
	write = api.Perm{Write: true, User: true}
	exec  = api.Perm{User: true, Exec: true}
	inner = api.Perm{Write: true} // the kernel's alone
)

// The choices by which nothing is kept, and by which a translation goes into way 0 or 1.
const (
	none = 0
	way0 = 1
	way1 = 2
)

// evict: the choice by which a place is evicted; by adding way0 or way1 to it, one is filled, too.
func evict(set, way int) int {
	return 3 * (1 + set + 8*way)
}

// machine: of so many frames, the first the kernel's, with so many tags.
func machine(t *testing.T, frames, tags int) *space.Machine {
	t.Helper()
	s := make([]byte, bootmap.Size)
	for i := range 8 {
		s[8+i] = byte(frames * 4096 >> (8 * i))
	}
	s[16] = bootmap.Usable
	m, e := space.Boot(space.Plan{Frames: frames, Kernel: api.Range{From: 0, To: 1}, Tags: tags, Map: s})
	must(t, "Boot", e)
	return m
}

// single: a processor of a machine of 60 frames and 3 tags, whose space 1 has pages 0 to 3, to be written.
func single(t *testing.T, choices ...int) *CPU {
	t.Helper()
	m := machine(t, 60, 3)
	must(t, "Open", m.Open(1, 0))
	must(t, "Map", m.Map(1, pages(0, 4), write))
	return New(m, choices)
}

// pages: a range.
func pages(from, to int) api.Range {
	return api.Range{From: from, To: to}
}

// must: a call answers OK.
func must(t *testing.T, what string, e api.Errno) {
	t.Helper()
	if e != api.OK {
		t.Fatalf("%s: %d", what, e)
	}
}

// store: a number is stored, without an error.
func store(t *testing.T, c *CPU, id int, addr uint64, size int, x uint64) {
	t.Helper()
	if v, f, e := c.Do(id, addr, size, true, x); v != 0 || f != (api.Fault{}) || e != api.OK {
		t.Fatalf("store of %d at %#x: %#x, %+v, %d", id, addr, v, f, e)
	}
}

// load: a number is there.
func load(t *testing.T, c *CPU, id int, addr uint64, size int, want uint64) {
	t.Helper()
	if v, f, e := c.Do(id, addr, size, false, 0); v != want || f != (api.Fault{}) || e != api.OK {
		t.Fatalf("load of %d at %#x: %#x, %+v, %d; want %#x", id, addr, v, f, e, want)
	}
}

// refuse: an access has this error (and, of ErrFault, this code), and nothing has changed but the choices that are left, and the tag. (The choice must be one that evicts nothing.)
func refuse(t *testing.T, c *CPU, id int, addr uint64, size int, writes bool, code int, want api.Errno) {
	t.Helper()
	before := stateOf(c.M)
	fault := api.Fault{}
	if want == api.ErrFault {
		fault = api.Fault{Addr: addr, Code: code}
	}
	if v, f, e := c.Do(id, addr, size, writes, 0x77); v != 0 || f != fault || e != want {
		t.Errorf("Do(%d, %#x, %d, %v): %#x, %+v, %d; want %+v, %d", id, addr, size, writes, v, f, e, fault, want)
	}
	if now := stateOf(c.M); now != before {
		t.Errorf("Do(%d, %#x, %d, %v): something has changed:\n%s\n%s", id, addr, size, writes, before, now)
	}
}

// faults: an access faults, whether it is a load or a store; there is 1, if the page leads somewhere.
func faults(t *testing.T, c *CPU, id int, addr uint64, there int) {
	t.Helper()
	refuse(t, c, id, addr, 8, false, 4+there, api.ErrFault)
	refuse(t, c, id, addr, 8, true, 6+there, api.ErrFault)
}

func wantLeft(t *testing.T, c *CPU, want int) {
	t.Helper()
	if n := c.Left(); n != want {
		t.Errorf("Left() = %d; want %d", n, want)
	}
}

func wantLines(t *testing.T, m *space.Machine, want ...tlb.Line) {
	t.Helper()
	if got := m.TLB.Lines(); !slices.Equal(got, want) {
		t.Errorf("lines: %+v; want %+v", got, want)
	}
}

func wantFresh(t *testing.T, m *space.Machine) {
	t.Helper()
	if stale := m.Stale(); len(stale) > 0 {
		t.Errorf("Stale() = %+v", stale)
	}
}

// frameOf: where a page of a space leads; it must lead somewhere already.
func frameOf(t *testing.T, m *space.Machine, id, page int) int {
	t.Helper()
	if !slices.Contains(m.Pages(id), page) {
		t.Fatalf("page %d of %d leads nowhere", page, id)
	}
	frame, _, e := m.Touch(id, page, api.Access{})
	must(t, "Touch", e)
	return frame
}

// bytesOf: a number that stands for all bytes of the memory.
func bytesOf(m *space.Machine) uint64 {
	h := fnv.New64a()
	for frame := range m.RAM.Frames() {
		if m.RAM.Clear(frame) {
			continue
		}
		s := []byte{byte(frame), byte(frame >> 8)}
		for place := uint64(0); place < 4096; place += 8 {
			x, _ := m.RAM.Load(uint64(frame)*4096+place, 8)
			for i := range 8 {
				s = append(s, byte(x>>(8*i)))
			}
		}
		h.Write(s)
	}
	return h.Sum64()
}

// stateOf: all that an access could have changed, as a text, but for choices and tags.
func stateOf(m *space.Machine) string {
	text := fmt.Sprint(bytesOf(m), m.Free.Free(), m.Free.Given(), m.Tree.Live(), m.TLB.Lines(), m.Stale())
	for _, i := range m.Tree.Live() {
		n, _ := m.Tree.Get(i)
		text += fmt.Sprint("\n", i, n)
	}
	for _, id := range m.Spaces() {
		root, _ := m.Root(id)
		text += fmt.Sprint("\n", id, root, m.Regions(id), m.Pages(id))
	}
	return text
}

// The chapter's example, with several lists of choices.
func TestExample(t *testing.T) {
	for _, choices := range [][]int{nil, {}, {1, 1, 1, 1}, {2, 4, 50, 1, 29}} {
		m := machine(t, 40, 2)
		must(t, "Open", m.Open(7, 0))
		must(t, "Map", m.Map(7, pages(0, 2), write))
		c := New(m, choices)
		store(t, c, 7, 8, 8, 5)
		load(t, c, 7, 8, 8, 5)
		load(t, c, 7, 4096, 8, 0)
		refuse(t, c, 7, 8192, 8, false, 4, api.ErrFault)
		refuse(t, c, 7, 4, 8, false, 0, api.ErrArg)
		refuse(t, c, 7, 4, 8, true, 0, api.ErrArg)
		wantFresh(t, m)
	}
}

// P13.1: ErrArg comes ahead of all else: no choice is used, nothing is evicted, no tag is given.
func TestArg(t *testing.T) {
	c := single(t, way0, evict(0, 0), evict(0, 0))
	store(t, c, 1, 8, 8, 5)
	generation := c.M.Tags.Generation()
	for _, id := range []int{1, 2, -1, math.MinInt, math.MaxInt} {
		for _, size := range []int{0, 3, 5, 6, 7, 9, 10, 12, 16, 32, 64, 128, 256, 4096, -1, -2, -4, -8, math.MinInt, math.MinInt + 8, math.MaxInt, 1 << 32, 1<<32 + 8, 1 << 62} {
			for _, addr := range []uint64{0, 8, 4096, 1 << 46, 1 << 47, math.MaxUint64} {
				refuse(t, c, id, addr, size, false, 0, api.ErrArg)
				refuse(t, c, id, addr, size, true, 0, api.ErrArg)
			}
		}
		for _, addr := range []uint64{1, 3, 5, 7, 4095, 1<<47 - 1} {
			for _, size := range []int{2, 4, 8} {
				refuse(t, c, id, addr, size, true, 0, api.ErrArg)
			}
		}
		for _, addr := range []uint64{2, 6, 4094} {
			refuse(t, c, id, addr, 4, false, 0, api.ErrArg)
			refuse(t, c, id, addr, 8, false, 0, api.ErrArg)
		}
		refuse(t, c, id, 4, 8, false, 0, api.ErrArg)
		refuse(t, c, id, 4092, 8, true, 0, api.ErrArg)
		for _, addr := range []uint64{1 << 47, 1<<47 + 8, 1 << 48, 1 << 63, 0xffff800000000000, 0xffff800000000000 + 4096, math.MaxUint64 - 7} {
			for _, size := range []int{1, 2, 4, 8} {
				refuse(t, c, id, addr, size, false, 0, api.ErrArg)
				refuse(t, c, id, addr, size, true, 0, api.ErrArg)
			}
		}
	}
	wantLeft(t, c, 2)
	if _, ok := c.M.Tags.Tag(2); ok || c.M.Tags.Generation() != generation {
		t.Error("a tag was given")
	}
	if len(c.M.TLB.Lines()) != 1 {
		t.Error("the line is gone")
	}
}

// P13.1: the last numbers of a space, up to 2^47.
func TestTop(t *testing.T) {
	c := single(t, way0, way1)
	must(t, "Map", c.M.Map(1, pages(1<<35-1, 1<<35), write))
	store(t, c, 1, 1<<47-8, 8, 0x1122334455667788)
	load(t, c, 1, 1<<47-8, 8, 0x1122334455667788)
	load(t, c, 1, 1<<47-1, 1, 0x11)
	load(t, c, 1, 1<<47-2, 2, 0x1122)
	load(t, c, 1, 1<<47-4, 4, 0x11223344)
	load(t, c, 1, 1<<47-16, 8, 0)
	store(t, c, 1, 1<<47-1, 1, 0xab)
	load(t, c, 1, 1<<47-8, 8, 0xab22334455667788)
	must(t, "Unmap", c.M.Unmap(1, pages(1<<35-1, 1<<35)))
	faults(t, c, 1, 1<<47-8, 0)
	faults(t, c, 1, 1<<46, 0)
}

// P13.1: where there is no space, a choice is used nevertheless, if there is one; no tag is given.
func TestNoSpace(t *testing.T) {
	c := single(t, way0, way0, none, way1, 50, math.MinInt)
	store(t, c, 1, 0, 8, 5)
	for left, id := range []int{0, 2, -1, math.MinInt, math.MaxInt} {
		wantLeft(t, c, 5-left)
		if v, f, e := c.Do(id, 0, 8, left%2 == 0, 9); v != 0 || f != (api.Fault{}) || e != api.ErrNone {
			t.Errorf("space %d: %d, %+v, %d", id, v, f, e)
		}
		if tag, ok := c.M.Tags.Tag(id); ok {
			t.Errorf("space %d has tag %d", id, tag)
		}
		wantFresh(t, c.M)
	}
	for range 3 {
		wantLeft(t, c, 0)
		refuse(t, c, 2, 0, 8, true, 0, api.ErrNone)
	}
	load(t, c, 1, 0, 8, 5)
	must(t, "Close", c.M.Close(1))
	refuse(t, c, 1, 0, 8, false, 0, api.ErrNone)
	refuse(t, c, 1, 1<<46, 1, true, 0, api.ErrNone)
}

// P13.1: a choice evicts ahead of the access, also where there is no space, or the access faults.
func TestEvictAhead(t *testing.T) {
	c := single(t, way0, evict(0, 0), way0, evict(0, 0)+way1)
	store(t, c, 1, 0, 8, 5)
	refuseBut(t, c, 9, 0, api.ErrNone)
	store(t, c, 1, 0, 8, 6)
	refuseBut(t, c, 1, 8*4096, api.ErrFault)
	load(t, c, 1, 0, 8, 6)
}

// refuseBut: an access is refused, and all lines are gone.
func refuseBut(t *testing.T, c *CPU, id int, addr uint64, want api.Errno) {
	t.Helper()
	if len(c.M.TLB.Lines()) != 1 {
		t.Errorf("lines: %+v", c.M.TLB.Lines())
	}
	if _, _, e := c.Do(id, addr, 8, false, 0); e != want {
		t.Errorf("Do: %d; want %d", e, want)
	}
	wantLines(t, c.M)
}

// P13.1: no byte but the number's, the lowest first, at each place of a page.
func TestBytes(t *testing.T) {
	for _, keep := range []int{none, way0, way1} {
		c := single(t, slices.Repeat([]int{keep}, 2000)...)
		var bytes [3 * 4096]byte
		x := uint64(0x0123456789abcdef)
		for _, at := range []int{0, 8, 24, 2040, 4080, 4088, 4096, 4104, 8184, 8192, 12280} {
			for _, size := range []int{8, 4, 2, 1} {
				for in := 0; in < 8; in += 3 * size {
					x = x*6364136223846793005 + 1442695040888963407
					store(t, c, 1, uint64(at+in), size, x)
					for i := range size {
						bytes[at+in+i] = byte(x >> (8 * i))
					}
				}
			}
		}
		frames := []int{frameOf(t, c.M, 1, 0), frameOf(t, c.M, 1, 1), frameOf(t, c.M, 1, 2)}
		for i, b := range bytes {
			if got, _ := c.M.RAM.Load(uint64(frames[i/4096]*4096+i%4096), 1); got != uint64(b) {
				t.Fatalf("byte %d is %#x; want %#x", i, got, b)
			}
		}
		for _, at := range []int{0, 1, 2, 4, 24, 30, 2046, 4086, 4088, 4092, 4094, 4095, 4096, 4102, 8191, 8192, 12286} {
			for _, size := range []int{1, 2, 4, 8} {
				if at%size == 0 {
					load(t, c, 1, uint64(at), size, number8(bytes[at:at+size]))
				}
			}
		}
		faults(t, c, 1, 4*4096, 0)
	}
}

// number8: what some bytes say, the lowest first.
func number8(bytes []byte) uint64 {
	x := uint64(0)
	for i, b := range bytes {
		x |= uint64(b) << (8 * i)
	}
	return x
}

// P13.1: of a load x says nothing, and nothing is stored; of a store what is answered is 0.
func TestLoadStoresNothing(t *testing.T) {
	c := single(t, way0)
	for range 2 {
		for _, x := range []uint64{0, 5, math.MaxUint64} {
			if v, _, e := c.Do(1, 16, 8, false, x); v != 0 || e != api.OK {
				t.Errorf("load: %d, %d", v, e)
			}
		}
	}
	if !c.M.RAM.Clear(frameOf(t, c.M, 1, 0)) {
		t.Error("a load has stored")
	}
	store(t, c, 1, 16, 8, math.MaxUint64)
	store(t, c, 1, 16, 1, 0x1ff00)
	load(t, c, 1, 16, 8, 0xffffffffffffff00)
}

// P13.1: a page that was never stored to has zeros, in whichever frame, whatever was in that.
func TestZeros(t *testing.T) {
	for _, keep := range []int{none, way0, way1} {
		c := single(t, slices.Repeat([]int{keep}, 500)...)
		must(t, "Open", c.M.Open(2, 0))
		must(t, "Map", c.M.Map(2, pages(0, 40), write))
		for page := range uint64(4) {
			for at := uint64(0); at < 4096; at += 512 {
				store(t, c, 1, page*4096+at, 8, math.MaxUint64)
			}
		}
		must(t, "Unmap", c.M.Unmap(1, pages(0, 4)))
		for page := range uint64(40) {
			for at := uint64(0); at < 4096; at += 512 {
				load(t, c, 2, page*4096+at, 8, 0)
			}
		}
		wantFresh(t, c.M)
	}
}

// P13.1: New keeps nothing of the list, and two processors use up nothing of each other's.
func TestNewOwn(t *testing.T) {
	room := []int{way0, way1, none, 77, 78}
	list := room[:3]
	a := single(t)
	b := New(a.M, list)
	c := New(a.M, list)
	list[0], list[1], list[2] = 99, 99, 99
	store(t, b, 1, 0, 8, 5)
	if l := a.M.TLB.Lines(); len(l) != 1 {
		t.Errorf("lines: %+v", l)
	}
	wantLeft(t, a, 0)
	wantLeft(t, b, 2)
	wantLeft(t, c, 3)
	store(t, c, 1, 4096, 8, 6)
	load(t, a, 1, 0, 8, 5)
	load(t, b, 1, 4096, 8, 6)
	wantLeft(t, b, 1)
	wantLeft(t, c, 2)
	if !slices.Equal(room, []int{99, 99, 99, 77, 78}) {
		t.Errorf("the list has changed: %v", room)
	}
	if b.M != a.M {
		t.Error("another machine")
	}
	for range 3 {
		load(t, b, 1, 0, 8, 5)
	}
	wantLeft(t, b, 0)
	wantLeft(t, New(a.M, nil), 0)
	wantLeft(t, New(a.M, []int{}), 0)
}
