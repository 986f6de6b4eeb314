package walk

import (
	"math"
	"math/rand"
	"testing"

	"demesne/api"
	"demesne/ram"
)

// accesses: every kind of access there is.
func accesses() []api.Access {
	var all []api.Access
	for i := range 8 {
		all = append(all, api.Access{Write: i&1 != 0, User: i&2 != 0, Fetch: i&4 != 0})
	}
	return all
}

// bitsOf: what the document's numbers say of an access.
func bitsOf(a api.Access) int {
	n := 0
	if a.Write {
		n += 2
	}
	if a.User {
		n += 4
	}
	if a.Fetch {
		n += 16
	}
	return n
}

func memory(t *testing.T, frames int, holes ...api.Range) *ram.RAM {
	t.Helper()
	r, e := ram.New(frames, holes)
	if e != api.OK {
		t.Fatalf("ram.New(%d, %v): %d", frames, holes, e)
	}
	return r
}

func put(t *testing.T, r *ram.RAM, frame, place int, x uint64) {
	t.Helper()
	if e := r.Store(uint64(frame)*4096+uint64(place)*8, 8, x); e != api.OK {
		t.Fatalf("entry %d of frame %d: %d", place, frame, e)
	}
}

// words: all entries of all frames that are there.
func words(r *ram.RAM) []uint64 {
	var all []uint64
	for at := uint64(0); at < uint64(r.Frames())*4096; at += 8 {
		x, _ := r.Load(at, 8)
		all = append(all, x)
	}
	return all
}

// addrOf: the address with these places, by the document's bits.
func addrOf(a, b, c, d, off uint64) uint64 {
	x := a<<39 | b<<30 | c<<21 | d<<12 | off
	if a >= 256 {
		x |= 0xffff << 48
	}
	return x
}

// chain: tables in frames 0 to 3, with the places 1, 2, 3, 4, and these entries.
func chain(t *testing.T, entries [4]uint64) (*ram.RAM, uint64) {
	t.Helper()
	r := memory(t, 8)
	for i, x := range entries {
		put(t, r, i, i+1, x)
	}
	return r, addrOf(1, 2, 3, 4, 0x567)
}

// open: entries by which everything may be, to frame 0x77, which isn't there.
func open() [4]uint64 {
	return [4]uint64{0x1007, 0x2007, 0x3007, 0x77007}
}

// want: a walk's answer, and what has changed: these words alone, by these bits.
func want(t *testing.T, r *ram.RAM, root int, addr uint64, a api.Access, found Found, fault api.Fault, err api.Errno, marks map[int]uint64) {
	t.Helper()
	before := words(r)
	f, p, e := Walk(r, root, addr, a)
	if f != found || p != fault || e != err {
		t.Errorf("Walk(%d, %#x, %+v) = %+v, %+v, %d; want %+v, %+v, %d", root, addr, a, f, p, e, found, fault, err)
	}
	for i, x := range words(r) {
		if x != before[i]|marks[i] {
			t.Errorf("Walk(%d, %#x, %+v): word %#x was %#x, is %#x; want %#x", root, addr, a, i*8, before[i], x, before[i]|marks[i])
		}
	}
}

func wantFault(t *testing.T, r *ram.RAM, root int, addr uint64, a api.Access, code int) {
	t.Helper()
	want(t, r, root, addr, a, Found{}, api.Fault{Addr: addr, Code: code}, api.ErrFault, nil)
}

func wantError(t *testing.T, r *ram.RAM, root int, addr uint64, a api.Access, err api.Errno) {
	t.Helper()
	want(t, r, root, addr, a, Found{}, api.Fault{}, err, nil)
}

// chainMarks: the words of chain's entries, as far as level last, that a walk marks.
func chainMarks(steps int, write bool) map[int]uint64 {
	marks := map[int]uint64{}
	for i := range steps {
		marks[i*512+i+1] = 0x20
	}
	if write {
		marks[(steps-1)*512+steps] = 0x60
	}
	return marks
}

// P4.1: the numbers of a fault's code.
func TestCodes(t *testing.T) {
	if There != 1 || Write != 2 || User != 4 || Reserved != 8 || Fetch != 16 {
		t.Error("the bits of a fault's code")
	}
}

// P4.1: every use beside every access.
func TestMay(t *testing.T) {
	for i := range 8 {
		p := api.Perm{Write: i&1 != 0, User: i&2 != 0, Exec: i&4 != 0}
		for _, a := range accesses() {
			need := 0
			if a.Write {
				need |= 1
			}
			if a.User {
				need |= 2
			}
			if a.Fetch {
				need |= 4
			}
			if got := May(p, a); got != (need&^i == 0) {
				t.Errorf("May(%+v, %+v) = %v", p, a, got)
			}
		}
	}
}

// P4.1: the chapter's example.
func TestExample(t *testing.T) {
	r := memory(t, 8)
	wantFault(t, r, 0, 0x1000, api.Access{Write: true}, 2)
	for i, x := range []uint64{0x1007, 0x2007, 0x3007} {
		put(t, r, i, 0, x)
	}
	put(t, r, 3, 1, 0x4005)
	found := Found{Frame: 4, Perm: api.Perm{User: true, Exec: true}}
	want(t, r, 0, 0x1000, api.Access{User: true}, found, api.Fault{}, api.OK, map[int]uint64{0: 0x20, 512: 0x20, 1024: 0x20, 1537: 0x20})
	for i, x := range map[int]uint64{0: 0x1027, 512: 0x2027, 1024: 0x3027, 1537: 0x4025} {
		if got := words(r)[i]; got != x {
			t.Errorf("word %d: %#x; want %#x", i, got, x)
		}
	}
	wantFault(t, r, 0, 0x1000, api.Access{User: true, Write: true}, 7)
}

// P4.1: which of several errors is answered.
func TestOrder(t *testing.T) {
	r := memory(t, 8, api.Range{From: 5, To: 6})
	write := api.Access{Write: true}
	for _, addr := range []uint64{1 << 47, 1<<48 - 1, 1 << 63, 0xffff7fffffffffff} {
		wantError(t, r, 0, addr, write, api.ErrArg)
		wantError(t, r, 8, addr, write, api.ErrArg) // ahead of a root that isn't there
	}
	for _, root := range []int{-1, 8, 5, math.MinInt, math.MaxInt, 1 << 20, 1 << 52} {
		wantError(t, r, root, 0x1000, write, api.ErrBus)
	}
	wantFault(t, r, 7, 0x1000, write, 2)
	put(t, r, 0, 0, 1<<40) // not present: the reserved bit isn't looked at
	wantFault(t, r, 0, 0x1000, write, 2)
	put(t, r, 0, 0, 1<<40|0x99001) // a reserved bit ahead of a table that isn't there
	wantFault(t, r, 0, 0x1000, write, 11)
	put(t, r, 0, 0, 0x99001) // a table that isn't there ahead of what may not be
	wantError(t, r, 0, 0x1000, write, api.ErrBus)
	put(t, r, 0, 0, 0x5007) // a hole
	wantError(t, r, 0, 0x1000, write, api.ErrBus)
	put(t, r, 0, 0, 0x1001) // no right to write, but a lower entry isn't present
	wantFault(t, r, 0, 0x1000, write, 2)
	put(t, r, 1, 0, 0x2081)
	wantFault(t, r, 0, 0x1000, write, 11)
}

// P4.1: an entry that isn't present, at each level, for each kind of access.
func TestNotPresent(t *testing.T) {
	for level := range 4 {
		for _, a := range accesses() {
			entries := open()
			entries[level] &^= 1
			r, addr := chain(t, entries)
			wantFault(t, r, 0, addr, a, bitsOf(a))
		}
	}
}

// P4.1: a reserved bit, at each level, for each kind of access; ahead of what may not be.
func TestReservedBit(t *testing.T) {
	for level := range 4 {
		for bit := 32; bit <= 51; bit++ {
			entries := open()
			entries[level] |= 1 << bit
			r, addr := chain(t, entries)
			wantFault(t, r, 0, addr, api.Access{}, 9)
		}
		for _, a := range accesses() {
			entries := [4]uint64{1<<63 | 0x1001, 0x2001, 0x3001, 0x77001}
			entries[level] |= 1 << 40
			r, addr := chain(t, entries)
			wantFault(t, r, 0, addr, a, 9+bitsOf(a))
		}
	}
	for level := range 2 { // bit 7 in levels 4 and 3
		entries := open()
		entries[level] |= 0x80
		r, addr := chain(t, entries)
		wantFault(t, r, 0, addr, api.Access{User: true}, 13)
	}
	for bit := 12; bit <= 20; bit++ { // within a large page's frame
		entries := open()
		entries[2] = 1<<bit | 0x87
		r, addr := chain(t, entries)
		wantFault(t, r, 0, addr, api.Access{Fetch: true}, 25)
	}
}

// P4.1: a table whose bytes aren't there, beyond the memory or in a hole, below each level.
func TestNoTable(t *testing.T) {
	for level := range 3 {
		for _, frame := range []uint64{8, 6, 1<<20 - 1} {
			r := memory(t, 8, api.Range{From: 6, To: 7})
			entries := open()
			entries[level] = frame<<12 | 7
			for i, x := range entries {
				put(t, r, i, i+1, x)
			}
			wantError(t, r, 0, addrOf(1, 2, 3, 4, 0), api.Access{}, api.ErrBus)
		}
	}
}

// P4.1: what one entry of several takes away, and the code for each kind of access.
func TestRights(t *testing.T) {
	for level := range 4 {
		for _, x := range []struct {
			change uint64
			perm   api.Perm
		}{
			{0, api.Perm{Write: true, User: true, Exec: true}},
			{2, api.Perm{User: true, Exec: true}},
			{4, api.Perm{Write: true, Exec: true}},
			{1 << 63, api.Perm{Write: true, User: true}},
			{1<<63 | 6, api.Perm{}},
		} {
			for _, a := range accesses() {
				entries := open()
				entries[level] ^= x.change
				r, addr := chain(t, entries)
				if a.Write && !x.perm.Write || a.User && !x.perm.User || a.Fetch && !x.perm.Exec {
					wantFault(t, r, 0, addr, a, 1+bitsOf(a))
					continue
				}
				want(t, r, 0, addr, a, Found{Frame: 0x77, Perm: x.perm, Dirty: a.Write}, api.Fault{}, api.OK, chainMarks(4, a.Write))
			}
		}
	}
}

// P4.1: rights that different entries take away add up.
func TestRightsTogether(t *testing.T) {
	r, addr := chain(t, [4]uint64{0x1005, 0x2003, 1<<63 | 0x3007, 0x77007})
	want(t, r, 0, addr, api.Access{}, Found{Frame: 0x77}, api.Fault{}, api.OK, chainMarks(4, false))
	for _, a := range accesses()[1:] {
		wantFault(t, r, 0, addr, a, 1+bitsOf(a))
	}
}

// P4.1: Global, Large and Dirty are the last entry's; in level 1 bit 7 makes no large page.
func TestLastEntry(t *testing.T) {
	all := api.Perm{Write: true, User: true, Exec: true}
	for _, x := range []struct {
		name    string
		entries [4]uint64
		found   Found
	}{
		{"global", [4]uint64{0x1007, 0x2007, 0x3007, 0x77107}, Found{Frame: 0x77, Perm: all, Global: true}},
		{"global above", [4]uint64{0x1107, 0x2107, 0x3107, 0x77007}, Found{Frame: 0x77, Perm: all}},
		{"dirty", [4]uint64{0x1007, 0x2007, 0x3007, 0x77047}, Found{Frame: 0x77, Perm: all, Dirty: true}},
		{"dirty above", [4]uint64{0x1047, 0x2047, 0x3047, 0x77007}, Found{Frame: 0x77, Perm: all}},
		{"bit 7 in level 1", [4]uint64{0x1007, 0x2007, 0x3007, 0x77087}, Found{Frame: 0x77, Perm: all}},
		{"the greatest frame", [4]uint64{0x1007, 0x2007, 0x3007, 0xfffff007}, Found{Frame: 1<<20 - 1, Perm: all}},
		{"silent bits", [4]uint64{0x1e1f, 0x7ff0000000002e1f, 0x3e1f, 0x7ff0000000077e1f}, Found{Frame: 0x77, Perm: all}},
	} {
		r, addr := chain(t, x.entries)
		want(t, r, 0, addr, api.Access{User: true}, x.found, api.Fault{}, api.OK, chainMarks(4, false))
		x.found.Dirty = true
		want(t, r, 0, addr, api.Access{Write: true}, x.found, api.Fault{}, api.OK, chainMarks(4, true))
		if t.Failed() {
			t.Fatal(x.name)
		}
	}
}

// P4.1: a large page ends the way at level 2; its frames are counted by the number for level 1.
func TestLarge(t *testing.T) {
	entries := [4]uint64{0x1007, 0x2007, 0x80200187, 0}
	perm := api.Perm{Write: true, User: true, Exec: true}
	for _, place := range []uint64{0, 4, 511} {
		for _, a := range accesses() {
			r, _ := chain(t, entries)
			found := Found{Frame: 0x80200 + int(place), Perm: perm, Global: true, Large: true, Dirty: a.Write}
			want(t, r, 0, addrOf(1, 2, 3, place, 0xfff), a, found, api.Fault{}, api.OK, chainMarks(3, a.Write))
		}
	}
	entries[2] = 0xffe00081 // the last of all large pages, for the kernel's reads and fetches
	r, _ := chain(t, entries)
	want(t, r, 0, addrOf(1, 2, 3, 511, 0), api.Access{Fetch: true}, Found{Frame: 1<<20 - 1, Perm: api.Perm{Exec: true}, Large: true}, api.Fault{}, api.OK, chainMarks(3, false))
	wantFault(t, r, 0, addrOf(1, 2, 3, 511, 0), api.Access{Write: true}, 3)
	wantFault(t, r, 0, addrOf(1, 2, 3, 0, 0), api.Access{User: true}, 5)
	wantFault(t, r, 0, addrOf(1, 2, 4, 0, 0), api.Access{User: true}, 4)
}

// P4.1: both ends of both halves of the addresses, and a root that isn't frame 0.
func TestEnds(t *testing.T) {
	for _, x := range []struct {
		top  int
		low  int
		addr uint64
	}{
		{0, 0, 0},
		{255, 511, 1<<47 - 1},
		{256, 0, 0xffff800000000000},
		{511, 511, math.MaxUint64},
	} {
		r := memory(t, 8)
		put(t, r, 7, x.top, 0x4003)
		put(t, r, 4, x.low, 0x5003)
		put(t, r, 5, x.low, 0x6003)
		put(t, r, 6, x.low, 0x3003)
		marks := map[int]uint64{7*512 + x.top: 0x20, 4*512 + x.low: 0x20, 5*512 + x.low: 0x20, 6*512 + x.low: 0x20}
		want(t, r, 7, x.addr, api.Access{}, Found{Frame: 3, Perm: api.Perm{Write: true, Exec: true}}, api.Fault{}, api.OK, marks)
		wantFault(t, r, 7, x.addr, api.Access{User: true}, 5)
		wantFault(t, r, 7, x.addr^4096, api.Access{User: true}, 4)
	}
}

// P4.1, P4.2: a root that leads to itself has one entry on the way several times, and it is Dirty behind a write.
func TestRootLeadsToItself(t *testing.T) {
	r := memory(t, 4)
	put(t, r, 2, 0, 0x2003)
	perm := api.Perm{Write: true, Exec: true}
	want(t, r, 2, 0x123, api.Access{}, Found{Frame: 2, Perm: perm}, api.Fault{}, api.OK, map[int]uint64{1024: 0x20})
	want(t, r, 2, 0x123, api.Access{Write: true}, Found{Frame: 2, Perm: perm, Dirty: true}, api.Fault{}, api.OK, map[int]uint64{1024: 0x60})
	want(t, r, 2, 0x123, api.Access{}, Found{Frame: 2, Perm: perm, Dirty: true}, api.Fault{}, api.OK, nil)
	fresh := memory(t, 4)
	put(t, fresh, 2, 511, 0x2003)
	put(t, fresh, 2, 5, 0x77003)
	marks := map[int]uint64{1024 + 511: 0x20, 1024 + 5: 0x60} // the entry itself, as a page's
	want(t, fresh, 2, addrOf(511, 511, 511, 5, 0), api.Access{Write: true}, Found{Frame: 0x77, Perm: perm, Dirty: true}, api.Fault{}, api.OK, marks)
	put(t, fresh, 2, 511, 0x2083) // the bit by which level 2 would end the way is reserved in level 4
	wantFault(t, fresh, 2, addrOf(511, 511, 511, 511, 0), api.Access{}, 9)
}

// model is a walk over numbers, written down level by level as the chapter says it.
type model struct {
	has   func(frame int) bool
	words []uint64
}

func (m *model) walk(root int, addr uint64, a api.Access) (Found, api.Fault, api.Errno) {
	if top := addr >> 47; top != 0 && top != 1<<17-1 {
		return Found{}, api.Fault{}, api.ErrArg
	}
	if !m.has(root) {
		return Found{}, api.Fault{}, api.ErrBus
	}
	var way []int
	all := uint64(7)
	exec := true
	table := root
	for level := 4; ; level-- {
		if !m.has(table) {
			return Found{}, api.Fault{}, api.ErrBus
		}
		at := table*512 + int(addr>>(12+9*(level-1))&511)
		x := m.words[at]
		if x&1 == 0 {
			return Found{}, api.Fault{Addr: addr, Code: bitsOf(a)}, api.ErrFault
		}
		large := x&0x80 != 0
		if x&0x000fffff00000000 != 0 || level > 2 && large || level == 2 && large && x&0x1ff000 != 0 {
			return Found{}, api.Fault{Addr: addr, Code: bitsOf(a) + 9}, api.ErrFault
		}
		way = append(way, at)
		all &= x
		exec = exec && x>>63 == 0
		table = int(x >> 12 & 0xfffff)
		if level > 1 && !(level == 2 && large) {
			continue
		}
		p := api.Perm{Write: all&2 != 0, User: all&4 != 0, Exec: exec}
		if a.Write && !p.Write || a.User && !p.User || a.Fetch && !p.Exec {
			return Found{}, api.Fault{Addr: addr, Code: bitsOf(a) + 1}, api.ErrFault
		}
		f := Found{Frame: table, Perm: p, Global: x&0x100 != 0, Large: level == 2, Dirty: a.Write || x&0x40 != 0}
		if level == 2 {
			f.Frame += int(addr >> 12 & 511)
		}
		for _, at := range way {
			m.words[at] |= 0x20
		}
		if a.Write {
			m.words[way[len(way)-1]] |= 0x40
		}
		return f, api.Fault{}, api.OK
	}
}

// randomEntry: mostly one that leads on, within a memory of 8 frames.
func randomEntry(rnd *rand.Rand) uint64 {
	x := uint64(rnd.Intn(9))<<12 | 7 | rnd.Uint64()&0x7ff0000000000f78&^0x80
	for _, c := range []struct {
		bit uint64
		one int
	}{{1, 30}, {2, 12}, {4, 12}, {1 << 63, 12}, {0x80, 8}, {1 << uint(32+rnd.Intn(20)), 40}} {
		if rnd.Intn(c.one) == 0 {
			x ^= c.bit
		}
	}
	if x&0x80 != 0 && rnd.Intn(4) != 0 {
		x = x&^0xfffff000 | uint64(rnd.Intn(2048))<<21
	}
	return x
}

// fill: a memory of 8 frames, one of them a hole, whose first entries lead here and there.
func fill(t *testing.T, rnd *rand.Rand) *ram.RAM {
	hole := 1 + rnd.Intn(7)
	r := memory(t, 8, api.Range{From: hole, To: hole + 1})
	for frame := range 8 {
		for _, place := range []int{0, 1, 255, 256, 511} {
			if frame != hole {
				put(t, r, frame, place, randomEntry(rnd))
			}
		}
	}
	return r
}

func randomAddr(rnd *rand.Rand) uint64 {
	place := func() uint64 { return []uint64{0, 1, 255, 256, 511}[rnd.Intn(5)] }
	addr := addrOf(place(), place(), place(), place(), uint64(rnd.Intn(4096)))
	if rnd.Intn(40) == 0 {
		addr ^= 1 << uint(47+rnd.Intn(17))
	}
	return addr
}

// P4.1, P4.2: any memory, beside the model, in which nothing but what is marked changes.
func TestBesideModel(t *testing.T) {
	rnd := rand.New(rand.NewSource(41))
	got := map[api.Errno]int{}
	for range 60 {
		r := fill(t, rnd)
		m := &model{r.Has, words(r)}
		for range 60 {
			root, addr, a := rnd.Intn(10)-1, randomAddr(rnd), accesses()[rnd.Intn(8)]
			wf, wp, we := m.walk(root, addr, a)
			f, p, e := Walk(r, root, addr, a)
			got[e]++
			if f != wf || p != wp || e != we {
				t.Fatalf("Walk(%d, %#x, %+v) = %+v, %+v, %d; want %+v, %+v, %d", root, addr, a, f, p, e, wf, wp, we)
			}
			if e == api.OK {
				if again, p, e := Walk(r, root, addr, a); again != f || p != (api.Fault{}) || e != api.OK {
					t.Fatalf("again: Walk(%d, %#x, %+v) = %+v, %+v, %d; want %+v", root, addr, a, again, p, e, f)
				}
			}
		}
		for i, x := range words(r) {
			if x != m.words[i] {
				t.Fatalf("word %#x is %#x; want %#x", i*8, x, m.words[i])
			}
		}
	}
	for _, e := range []api.Errno{api.OK, api.ErrArg, api.ErrBus, api.ErrFault} {
		if got[e] < 50 {
			t.Errorf("error %d came up %d times alone", e, got[e])
		}
	}
}

// P4.3: what is refused is refused for a greater access, too.
func TestGreaterAccess(t *testing.T) {
	rnd := rand.New(rand.NewSource(43))
	for range 40 {
		r := fill(t, rnd)
		for range 40 {
			root, addr := rnd.Intn(8), randomAddr(rnd)
			var refused [8]bool
			for i, a := range accesses() {
				_, _, e := Walk(r, root, addr, a)
				refused[i] = e != api.OK
			}
			for i := range refused {
				for j := range refused {
					if i&^j == 0 && refused[i] && !refused[j] {
						t.Fatalf("%#x: access %+v is refused, %+v isn't", addr, accesses()[i], accesses()[j])
					}
				}
			}
		}
	}
}

// K3, K4: two memories that are the same are answered the same, and one's walks don't show in the other.
func TestTwoMemories(t *testing.T) {
	a, addr := chain(t, open())
	b, _ := chain(t, open())
	before := words(b)
	f, _, _ := Walk(a, 0, addr, api.Access{Write: true})
	for i, x := range words(b) {
		if x != before[i] {
			t.Fatalf("word %#x of another memory is %#x", i*8, x)
		}
	}
	if g, _, _ := Walk(b, 0, addr, api.Access{Write: true}); g != f {
		t.Errorf("%+v, then %+v", f, g)
	}
}
