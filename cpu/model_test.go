package cpu

import (
	"fmt"
	"maps"
	"math"
	"math/rand"
	"slices"
	"testing"

	"demesne/api"
	"demesne/space"
)

// cell is a page of a space in the model: its use, and its bytes (none, if it leads nowhere); of a borrowed one they are the lender's.
type cell struct {
	perm   api.Perm
	bytes  *[4096]byte
	source [2]int // whose page it is, if it is borrowed
	lent   bool   // is it borrowed?
}

// plain is a space in the model, without tables and lines.
type plain struct {
	box   int
	cells map[int]cell
}

// model is the spaces, and processors of several machines, which are all called alike, but for their choices.
type model struct {
	t      *testing.T
	rnd    *rand.Rand
	cpus   []*CPU
	spaces map[int]*plain
	hoard  [][]int        // of each machine: the frames that were taken by hand
	told   map[string]int // how often each call had which answer
}

const top35 = 1 << 35

// clusters: where the pages of the random calls lie, at the edges of tables.
var clusters = []int{0, 508, 1<<18 - 2, 1<<27 - 2, top35 - 4}

func (x *model) page() int {
	return clusters[x.rnd.Intn(len(clusters))] + x.rnd.Intn(4)
}

// some: a page that a space has, more often than one that it hasn't.
func (x *model) some(id int) int {
	if s := x.spaces[id]; s != nil && len(s.cells) > 0 && x.rnd.Intn(8) > 0 {
		all := slices.Sorted(maps.Keys(s.cells))
		return all[x.rnd.Intn(len(all))]
	}
	return x.page()
}

// id: of a space, more often one that is there.
func (x *model) id() int {
	if ids := slices.Sorted(maps.Keys(x.spaces)); len(ids) > 0 && x.rnd.Intn(20) > 0 {
		return ids[x.rnd.Intn(len(ids))]
	}
	return x.rnd.Intn(7) - 1
}

func (x *model) perm() api.Perm {
	return []api.Perm{write, write, write, read, exec, inner, {}, {Write: true, User: true, Exec: true}}[x.rnd.Intn(8)]
}

// all: a call of each machine, which must be answered alike; the answer.
func (x *model) all(what string, f func(m *space.Machine) api.Errno) api.Errno {
	x.t.Helper()
	first := f(x.cpus[0].M)
	for i, c := range x.cpus[1:] {
		if e := f(c.M); e != first {
			x.t.Fatalf("%s: %d of machine 0, %d of machine %d", what, first, e, i+1)
		}
	}
	x.told[fmt.Sprint(what, " ", first)]++
	return first
}

func (x *model) open() {
	id, box := x.rnd.Intn(6), x.rnd.Intn(3)
	if x.all("Open", func(m *space.Machine) api.Errno { return m.Open(id, box) }) == api.OK {
		x.spaces[id] = &plain{box: box, cells: map[int]cell{}}
	}
}

func (x *model) mapPages() {
	id, perm, from := x.id(), x.perm(), x.page()
	p := pages(from, min(from+1+x.rnd.Intn(4), top35))
	if x.all("Map", func(m *space.Machine) api.Errno { return m.Map(id, p, perm) }) == api.OK {
		for page := p.From; page < p.To; page++ {
			x.spaces[id].cells[page] = cell{perm: perm}
		}
	}
}

func (x *model) unmap() {
	id := x.id()
	from := x.some(id)
	p := pages(from, min(from+1+x.rnd.Intn(3), top35))
	if x.all("Unmap", func(m *space.Machine) api.Errno { return m.Unmap(id, p) }) == api.OK {
		for page := p.From; page < p.To; page++ {
			delete(x.spaces[id].cells, page)
		}
	}
}

func (x *model) protect() {
	id, perm := x.id(), x.perm()
	from := x.some(id)
	p := pages(from, min(from+1+x.rnd.Intn(2), top35))
	if x.all("Protect", func(m *space.Machine) api.Errno { return m.Protect(id, p, perm) }) == api.OK {
		for page := p.From; page < p.To; page++ {
			c := x.spaces[id].cells[page]
			c.perm = perm
			x.spaces[id].cells[page] = c
		}
	}
}

func (x *model) lend() {
	id, to, at, perm := x.id(), x.id(), x.page(), x.perm()
	page := x.some(id)
	if x.all("Lend", func(m *space.Machine) api.Errno { return m.Lend(id, page, to, at, perm) }) == api.OK {
		x.spaces[to].cells[at] = cell{perm: perm, bytes: x.spaces[id].cells[page].bytes, source: [2]int{id, page}, lent: true}
	}
}

func (x *model) back() {
	to := x.id()
	at := x.some(to)
	if s := x.spaces[to]; s != nil {
		for _, page := range slices.Sorted(maps.Keys(s.cells)) {
			if s.cells[page].lent && x.rnd.Intn(2) == 0 {
				at = page
			}
		}
		source := s.cells[at].source
		if x.all("Back", func(m *space.Machine) api.Errno { return m.Back(source[0], source[1], to, at) }) == api.OK {
			delete(s.cells, at)
		}
	}
}

func (x *model) close() {
	id := x.id()
	if x.all("Close", func(m *space.Machine) api.Errno { return m.Close(id) }) == api.OK {
		delete(x.spaces, id)
	}
}

// take: frames of each machine are taken by hand, till few are left; or they are given back.
func (x *model) take() {
	for i, c := range x.cpus {
		for _, frame := range x.hoard[i] {
			must(x.t, "Give", c.M.Free.Give(frame))
		}
		x.hoard[i] = nil
	}
	if x.rnd.Intn(2) == 0 {
		return
	}
	left := x.rnd.Intn(6)
	for i, c := range x.cpus {
		for c.M.Free.Free() > left {
			frame, e := c.M.Free.Take(0)
			must(x.t, "Take", e)
			x.hoard[i] = append(x.hoard[i], frame)
		}
	}
}

// cost: how many frames a space has: its root, its tables, those of its own.
func (s *plain) cost() int {
	frames := 1
	tables := map[[2]int]int{}
	for page, c := range s.cells {
		if c.bytes == nil {
			continue
		}
		for shift := 9; shift <= 27; shift += 9 {
			tables[[2]int{shift, page >> shift}]++
		}
		if !c.lent {
			frames++
		}
	}
	return frames + len(tables)
}

// supply: a page has bytes, if its container may have the frames for it, and so many are free.
func (x *model) supply(s *plain, page int) api.Errno {
	c := s.cells[page]
	before := s.cost()
	c.bytes = &[4096]byte{}
	s.cells[page] = c
	need := s.cost() - before
	room, free := x.cpus[0].M.Tree.Room(s.box), x.cpus[0].M.Free.Free()
	if need <= room && need <= free {
		return api.OK
	}
	c.bytes = nil
	s.cells[page] = c
	for n := 1; n <= need; n++ { // they are taken one by one
		if n > room {
			return api.ErrQuota
		}
		if n > free {
			return api.ErrNoMem
		}
	}
	return api.OK
}

// access: what the model answers.
func (x *model) access(id int, addr uint64, size int, writes bool, v uint64) (uint64, api.Fault, api.Errno) {
	if size != 1 && size != 2 && size != 4 && size != 8 || addr&uint64(size-1) != 0 || addr>>47 != 0 {
		return 0, api.Fault{}, api.ErrArg
	}
	s := x.spaces[id]
	if s == nil {
		return 0, api.Fault{}, api.ErrNone
	}
	page := int(addr >> 12)
	c, ok := s.cells[page]
	if !ok || !c.perm.User || writes && !c.perm.Write {
		code := 4
		if writes {
			code += 2
		}
		if ok && c.bytes != nil {
			code++
		}
		return 0, api.Fault{Addr: addr, Code: code}, api.ErrFault
	}
	if c.bytes == nil {
		if e := x.supply(s, page); e != api.OK {
			return 0, api.Fault{}, e
		}
	}
	bytes := x.spaces[id].cells[page].bytes[addr&4095:][:size]
	if !writes {
		return number8(bytes), api.Fault{}, api.OK
	}
	for i := range bytes {
		bytes[i] = byte(v >> (8 * i))
	}
	return 0, api.Fault{}, api.OK
}

// do: a few accesses of one space.
func (x *model) do() {
	id := x.id()
	for range 1 + x.rnd.Intn(6) {
		x.doOne(id)
	}
}

// doOne: an access of each machine, which must be answered as the model says.
func (x *model) doOne(id int) {
	writes, v := x.rnd.Intn(2) == 0, x.rnd.Uint64()
	size := 1 << x.rnd.Intn(4)
	addr := uint64(x.some(id))*4096 + uint64(size*[]int{0, 1, 2, 4096/size - 1}[x.rnd.Intn(4)])
	switch x.rnd.Intn(60) {
	case 0:
		size = x.rnd.Intn(20) - 8
	case 1:
		addr++
	case 2:
		addr += 1 << 47
	}
	want, fault, err := x.access(id, addr, size, writes, v)
	for i, c := range x.cpus {
		left := c.Left()
		got, f, e := c.Do(id, addr, size, writes, v)
		if got != want || f != fault || e != err {
			x.t.Fatalf("machine %d: Do(%d, %#x, %d, %v): %#x, %+v, %d; want %#x, %+v, %d", i, id, addr, size, writes, got, f, e, want, fault, err)
		}
		if left > 0 && e != api.ErrArg {
			left--
		}
		wantLeft(x.t, c, left)
	}
	x.told[fmt.Sprint("Do ", writes, " ", err)]++
	x.wantFresh()
}

func (x *model) wantFresh() {
	x.t.Helper()
	for i, c := range x.cpus {
		if stale := c.M.Stale(); len(stale) > 0 {
			x.t.Fatalf("machine %d: Stale() = %+v", i, stale)
		}
	}
}

// tag: a number, of a space or not, has its tag; by this new generations begin.
func (x *model) tag() {
	id := x.rnd.Intn(9) - 1
	x.all("Tag", func(m *space.Machine) api.Errno { return api.Errno(m.Tag(id)) })
}

// one: a call, more or less often.
func (x *model) one() {
	switch n := x.rnd.Intn(1000); {
	case n < 40:
		x.open()
	case n < 120:
		x.mapPages()
	case n < 150:
		x.unmap()
	case n < 190:
		x.protect()
	case n < 230:
		x.lend()
	case n < 260:
		x.back()
	case n < 275:
		x.close()
	case n < 285:
		x.take()
	case n < 300:
		x.tag()
	default:
		x.do()
	}
	x.wantFresh()
	if x.t.Failed() {
		x.t.FailNow()
	}
}

// lists: choices of several kinds: none, all kept, all kept in one way, some evicted, any numbers, and fewer than there are accesses.
func lists(rnd *rand.Rand, n int) [][]int {
	all := make([][]int, 6)
	for range n {
		all[1] = append(all[1], 1+rnd.Intn(2))
		all[2] = append(all[2], way1)
		all[3] = append(all[3], rnd.Intn(51))
		all[4] = append(all[4], int(rnd.Uint64()))
	}
	all[5] = append(slices.Clone(all[1][:n/3]), math.MinInt, math.MaxInt, -1)
	return all
}

// P13.1, P13.2, P13.3: any calls, of machines with unlike choices, beside a model that has pages of bytes alone.
func TestModel(t *testing.T) {
	const calls = 1500
	told := map[string]int{}
	for seed := range int64(10) {
		rnd := rand.New(rand.NewSource(seed))
		x := &model{t: t, rnd: rnd, spaces: map[int]*plain{}, told: told}
		tags := []int{1, 2, 3, 6, 50}[seed%5]
		for _, choices := range lists(rnd, 3*calls) {
			m := machine(t, 120, tags)
			for _, may := range []int{12, 40} {
				_, e := m.Tree.Child(0, may)
				must(t, "Child", e)
			}
			x.cpus = append(x.cpus, New(m, choices))
			x.hoard = append(x.hoard, nil)
		}
		for range calls {
			x.one()
		}
	}
	for _, what := range []string{"Do true 0", "Do true 1", "Do true 5", "Do true 7", "Do true 8", "Do true 9", "Do false 0", "Do false 1", "Do false 5", "Do false 7", "Do false 8", "Do false 9",
		"Open 0", "Map 0", "Unmap 0", "Unmap 11", "Protect 0", "Protect 11", "Lend 0", "Back 0", "Close 0", "Close 11", "Tag 1"} {
		if told[what] < 10 {
			t.Errorf("%s: %d times only", what, told[what])
		}
	}
}
