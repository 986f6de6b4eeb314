package call

import (
	"math/rand"
	"testing"

	"demesne/api"
)

// inForm: is it a call that Read may say? By the fields alone, without words: what the Op uses has its bounds, and with that taken away nothing is left.
func inForm(c Call) bool {
	rest := c
	rest.Op = 0
	good := true
	within := func(x, least, greatest int) {
		good = good && x >= least && x <= greatest
	}
	some := func(least, greatest int) { // how many pages
		within(c.Pages.From, 0, topPage-1)
		within(c.Pages.To, c.Pages.From+least, c.Pages.From+greatest)
		within(c.Pages.To, 0, topPage)
		rest.Pages = api.Range{}
	}
	switch c.Op {
	case Map, Protect:
		some(1, maxPages)
		good = good && c.Perm.User
		rest.Perm = api.Perm{}
	case Unmap:
		some(1, maxPages)
	case Load, Store:
		good = c.Addr < top && (c.Size == 1 || c.Size == 2 || c.Size == 4 || c.Size == 8) && c.Addr&uint64(c.Size-1) == 0
		rest.Addr, rest.Size = 0, 0
		if c.Op == Store {
			good = good && c.X <= map[int]uint64{1: 0xff, 2: 0xffff, 4: 0xffffffff, 8: most}[c.Size]
			rest.X = 0
		}
	case Offer:
		some(1, 1)
		within(c.Id, 0, 15)
		rest.Id, rest.Perm.Write = 0, false
	case Accept:
		some(1, 1)
		within(c.Id, 0, 255)
		rest.Id = 0
	case Revoke, Leave:
		within(c.Id, 0, 255)
		rest.Id = 0
	case Handler:
		good = c.Addr < top
		rest.Addr = 0
	case Return, Exit, Yield:
	case Spawn:
		within(c.Id, 0, 1<<20)
		rest.Id = 0
	case Reckon:
		within(c.Id, 1, 8)
		within(c.A, 0, 3)
		within(c.B, 0, 3)
		within(c.D, 0, 3)
		rest.Id, rest.A, rest.B, rest.D = 0, 0, 0, 0
	case Move:
		within(c.Id, 0, 3)
		rest.Id, rest.X = 0, 0
	default:
		return false
	}
	return good && rest == Call{}
}

// anyWord: one of those at which something changes, or any.
func anyWord(rnd *rand.Rand) uint64 {
	edges := []uint64{0, 1, 2, 3, 4, 7, 8, 9, 15, 16, 17, 255, 256, 1<<16 - 1, 1 << 16, 1<<16 + 1, 1 << 20, 1<<20 + 1, 1<<32 - 1, 1 << 32, topPage - 1, topPage, top - 8, top - 1, top, half - 1, half, most - 7, most}
	switch rnd.Intn(8) {
	case 0:
		return rnd.Uint64()
	case 1:
		return uint64(rnd.Intn(300))
	case 2, 3:
		return edges[rnd.Intn(len(edges))]
	}
	return uint64(rnd.Intn(5))
}

// P15.1, P15.2: of any words Read says a call in form, which Write spells as they were, or ErrInval; no two words say the same.
func TestAnyWords(t *testing.T) {
	rnd := rand.New(rand.NewSource(151))
	spelt := map[Call]Words{}
	told := [17]int{}
	for range 1_000_000 {
		w := Words{uint64(rnd.Intn(18))}
		if rnd.Intn(50) == 0 {
			w[0] = anyWord(rnd)
		}
		for i := 1; i < 6; i++ {
			if w[0] > 16 || i < used[max(w[0], 1)] || rnd.Intn(20) == 0 {
				w[i] = anyWord(rnd)
			}
		}
		c, e := Read(w)
		if again, e2 := Read(w); again != c || e2 != e {
			t.Fatalf("Read(%#x) = %+v, %d, then %+v, %d", w, c, e, again, e2)
		}
		if e != api.OK {
			if e != api.ErrInval || c != (Call{}) {
				t.Fatalf("Read(%#x) = %+v, %d", w, c, e)
			}
			told[0]++
			continue
		}
		if !inForm(c) {
			t.Fatalf("Read(%#x) = %+v, which isn't a call in form", w, c)
		}
		if back, e := Write(c); back != w || e != api.OK {
			t.Fatalf("Read(%#x) = %+v, and back: %#x, %d", w, c, back, e)
		}
		if other, ok := spelt[c]; ok && other != w {
			t.Fatalf("%+v has two spellings: %#x and %#x", c, other, w)
		}
		spelt[c] = w
		told[c.Op]++
	}
	for op, n := range told {
		if n < 1000 {
			t.Errorf("Op %d: %d times only", op, n)
		}
	}
}

// anyNumber: one of those at which something changes, or any.
func anyNumber(rnd *rand.Rand) int {
	return int(anyWord(rnd)) - rnd.Intn(2)
}

// anyCall: one whose fields that its Op uses are nearly always set, the others nearly never.
func anyCall(rnd *rand.Rand) Call {
	c := Call{Op: rnd.Intn(18)}
	for _, f := range fields() {
		if contains(f.ops, c.Op) != (rnd.Intn(100) == 0) {
			f.set(&c, anyNumber(rnd))
		}
	}
	if contains([]int{Map, Unmap, Protect, Offer, Accept}, c.Op) && rnd.Intn(10) > 0 {
		c.Pages.To = c.Pages.From + 1
		if c.Op < Offer {
			c.Pages.To = c.Pages.From + anyNumber(rnd)
		}
	}
	if c.Op == Load || c.Op == Store {
		c.Size = []int{0, 1, 1, 2, 2, 4, 4, 8, 8, 16}[rnd.Intn(10)]
		c.Addr &^= uint64(rnd.Intn(8))
	}
	c.Perm.Write = c.Perm.Write && rnd.Intn(2) == 0
	c.Perm.Exec = c.Perm.Exec && rnd.Intn(2) == 0
	return c
}

// P15.2: of any call Write answers words of which Read says that call, if it is one in form, else ErrInval.
func TestAnyCall(t *testing.T) {
	rnd := rand.New(rand.NewSource(152))
	told, refused := [18]int{}, [18]int{}
	for range 1_000_000 {
		c := anyCall(rnd)
		w, e := Write(c)
		if again, e2 := Write(c); again != w || e2 != e {
			t.Fatalf("Write(%+v) = %#x, %d, then %#x, %d", c, w, e, again, e2)
		}
		if !inForm(c) {
			if w != (Words{}) || e != api.ErrInval {
				t.Fatalf("Write(%+v) = %#x, %d; want ErrInval", c, w, e)
			}
			refused[c.Op]++
			continue
		}
		if back, e2 := Read(w); e != api.OK || e2 != api.OK || back != c {
			t.Fatalf("Write(%+v) = %#x, %d, and back: %+v, %d", c, w, e, back, e2)
		}
		told[c.Op]++
	}
	for op := 1; op <= 16; op++ {
		if told[op] < 1000 || refused[op] < 100 {
			t.Errorf("Op %d: %d times words, %d times none", op, told[op], refused[op])
		}
	}
}
