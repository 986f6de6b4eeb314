package call

import (
	"math"
	"testing"

	"demesne/api"
)

// odd: numbers that no field of a call has, of whichever Op.
var odd = []int{math.MinInt, math.MinInt + 1, -1 << 40, -1 << 35, -1 << 32, -256, -17, -16, -8, -2, -1, math.MaxInt - 1, math.MaxInt}

// P15.2: calls whose Op is none, also such as would be one by its low bits.
func TestWriteNoOp(t *testing.T) {
	for _, s := range ordinary() {
		op := s.call.Op
		for _, x := range append([]int{0, 17, 18, 32, op + 1<<8, op + 1<<32, op - 1<<32, math.MinInt + op, -op}, odd...) {
			c := s.call
			c.Op = x
			noCall(t, c)
			noCall(t, Call{Op: x})
		}
	}
	noCall(t, Call{})
}

// field is one of a call's fields: how it is changed to x, and which Ops use it.
type field struct {
	name string
	set  func(c *Call, x int)
	ops  []int
}

func fields() []field {
	return []field{
		{"From", func(c *Call, x int) { c.Pages.From = x }, []int{Map, Unmap, Protect, Offer, Accept}},
		{"To", func(c *Call, x int) { c.Pages.To = x }, []int{Map, Unmap, Protect, Offer, Accept}},
		{"both ends", func(c *Call, x int) { c.Pages = api.Range{From: x, To: x} }, nil},
		{"Write", func(c *Call, x int) { c.Perm.Write = true }, []int{Map, Protect, Offer}},
		{"User", func(c *Call, x int) { c.Perm.User = true }, []int{Map, Protect}},
		{"Exec", func(c *Call, x int) { c.Perm.Exec = true }, []int{Map, Protect}},
		{"Addr", func(c *Call, x int) { c.Addr = uint64(x) }, []int{Load, Store, Handler}},
		{"Size", func(c *Call, x int) { c.Size = x }, []int{Load, Store}},
		{"X", func(c *Call, x int) { c.X = uint64(x) }, []int{Store, Move}},
		{"Id", func(c *Call, x int) { c.Id = x }, []int{Offer, Accept, Revoke, Leave, Spawn, Reckon, Move}},
		{"A", func(c *Call, x int) { c.A = x }, []int{Reckon}},
		{"B", func(c *Call, x int) { c.B = x }, []int{Reckon}},
		{"D", func(c *Call, x int) { c.D = x }, []int{Reckon}},
	}
}

// P15.2: a field that the Op doesn't use and that isn't zero, with numbers that would be right in another Op's call, and with others.
func TestWriteUnusedFields(t *testing.T) {
	for _, s := range ordinary() {
		for _, f := range fields() {
			if contains(f.ops, s.call.Op) {
				continue
			}
			for _, x := range append([]int{1, 2, 3, 4, 8, 20, 1 << 8, 1 << 32}, odd...) {
				c := s.call
				f.set(&c, x)
				if w, e := Write(c); w != (Words{}) || e != api.ErrInval {
					t.Errorf("Write(%+v), with %s that it doesn't use: %#x, %d", c, f.name, w, e)
				}
			}
		}
	}
}

func contains(ops []int, op int) bool {
	for _, x := range ops {
		if x == op {
			return true
		}
	}
	return false
}

// P15.2: a field that the Op uses, with numbers below 0 and the greatest ones. (As an Addr or an X such a number is a great one.)
func TestWriteOddFields(t *testing.T) {
	for _, s := range ordinary() {
		for _, f := range fields() {
			if !contains(f.ops, s.call.Op) || contains([]int{Map, Protect, Offer}, s.call.Op) && (f.name == "Write" || f.name == "User" || f.name == "Exec") {
				continue
			}
			for _, x := range odd {
				c := s.call
				f.set(&c, x)
				if c.Op == Move && f.name == "X" {
					same(t, Words{16, 2, uint64(x)}, c)
				} else {
					noCall(t, c)
				}
			}
		}
	}
}

// P15.2: each number at its edges and beyond them.
func TestWriteEdges(t *testing.T) {
	for _, op := range []int{Revoke, Leave, Accept, Offer, Spawn, Reckon, Move} {
		least, greatest := 0, map[int]int{Revoke: 255, Leave: 255, Accept: 255, Offer: 15, Spawn: 1 << 20, Reckon: 8, Move: 3}[op]
		if op == Reckon {
			least = 1
		}
		for _, x := range []int{least - 2, least - 1, greatest + 1, greatest + 2, least + 1<<32, greatest - 1<<32, least + math.MinInt} {
			c := ordinary()[op-1].call
			c.Id = x
			noCall(t, c)
		}
		for _, x := range []int{least, least + 1, greatest - 1, greatest} {
			s := ordinary()[op-1]
			s.call.Id = x
			place := 1
			if op == Offer {
				place = 2
			}
			s.words[place] = uint64(x - least)
			same(t, s.words, s.call)
		}
	}
	for _, x := range []int{-4, 4, 5, 1 << 32} {
		noCall(t, Call{Op: Reckon, Id: 1, A: x})
		noCall(t, Call{Op: Reckon, Id: 1, B: x})
		noCall(t, Call{Op: Reckon, Id: 1, D: x})
	}
}

// P15.2: pages of lengths that Read never says, of each Op that has pages.
func TestWritePages(t *testing.T) {
	for _, op := range []int{Map, Unmap, Protect} {
		perm := all
		if op == Unmap {
			perm = api.Perm{}
		}
		for _, p := range []api.Range{{}, {From: 5, To: 5}, {From: 5, To: 4}, {From: 5, To: 0}, {From: 5, To: -5}, {From: 0, To: maxPages + 1}, {From: 5, To: maxPages + 6}, {From: -1, To: 1}, {From: -1, To: 0}, {From: -2, To: -1}, {From: topPage - 1, To: topPage + 1}, {From: topPage, To: topPage + 1}, {From: topPage, To: topPage}, {From: math.MaxInt, To: math.MinInt}, {From: math.MinInt, To: math.MaxInt}, {From: math.MinInt, To: math.MinInt + 1}, {From: math.MaxInt - 1, To: math.MaxInt}, {From: 1, To: math.MinInt + 2}, {From: 1, To: 1 + 1<<32 + 1}} {
			noCall(t, Call{Op: op, Pages: p, Perm: perm})
		}
	}
	for _, op := range []int{Offer, Accept} {
		for _, p := range []api.Range{{}, {From: 5, To: 5}, {From: 5, To: 7}, {From: 5, To: 4}, {From: 5, To: 5 + maxPages}, {From: 5}, {To: 5}, {From: -1, To: 0}, {From: -2, To: -1}, {From: topPage, To: topPage + 1}, {From: topPage - 1, To: topPage + 1}, {From: math.MaxInt, To: math.MinInt}, {From: math.MinInt, To: math.MinInt + 1}} {
			noCall(t, Call{Op: op, Pages: p, Id: 3})
		}
	}
}

// P15.2: perms that Read never says: of Map and Protect none without User, of Offer none but Write, of others none.
func TestWritePerms(t *testing.T) {
	for i := range 8 {
		perm := api.Perm{Write: i&1 != 0, User: i&2 != 0, Exec: i&4 != 0}
		for _, s := range ordinary() {
			c := s.call
			c.Perm = perm
			good := false
			switch c.Op {
			case Map, Protect:
				good = perm.User
			case Offer:
				good = !perm.User && !perm.Exec
			default:
				good = i == 0
			}
			if w, e := Write(c); (e == api.OK) != good || !good && (w != (Words{}) || e != api.ErrInval) {
				t.Errorf("Write(%+v) = %#x, %d", c, w, e)
			}
		}
	}
}

// P15.2: places that Read never says, and numbers that the size has no room for.
func TestWritePlaces(t *testing.T) {
	for _, op := range []int{Load, Store} {
		for _, size := range []int{-8, -1, 0, 3, 5, 6, 7, 9, 16, 1<<32 + 1, math.MinInt + 1} {
			noCall(t, Call{Op: op, Size: size})
			noCall(t, Call{Op: op, Addr: 64, Size: size})
		}
		for _, size := range []int{2, 4, 8} {
			noCall(t, Call{Op: op, Addr: 65, Size: size})
			noCall(t, Call{Op: op, Addr: 64 + uint64(size)/2, Size: size})
		}
		for _, size := range []int{1, 2, 4, 8} {
			noCall(t, Call{Op: op, Addr: top, Size: size})
			noCall(t, Call{Op: op, Addr: half, Size: size})
			noCall(t, Call{Op: op, Addr: most - 7, Size: size})
		}
	}
	for _, size := range []int{1, 2, 4} {
		beyond := uint64(1) << (8 * size)
		noCall(t, Call{Op: Store, Addr: 64, Size: size, X: beyond})
		noCall(t, Call{Op: Store, Addr: 64, Size: size, X: beyond + 1})
		noCall(t, Call{Op: Store, Addr: 64, Size: size, X: most})
	}
	noCall(t, Call{Op: Handler, Addr: top})
	noCall(t, Call{Op: Handler, Addr: most})
	noCall(t, Call{Op: Load, Addr: 64, Size: 8, X: 1})
}
