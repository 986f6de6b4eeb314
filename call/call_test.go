package call

import (
	"math"
	"testing"

	"demesne/api"
)

// The numbers that the tests take as given.
const (
	topPage  = 1 << 35
	maxPages = 1 << 16
	top      = 1 << 47
	half     = 1 << 63
	most     = math.MaxUint64
)

// The uses that the tests take.
var (
	read = api.Perm{User: true}
	both = api.Perm{Write: true, User: true}
	exec = api.Perm{User: true, Exec: true}
	all  = api.Perm{Write: true, User: true, Exec: true}
)

// pages: a range.
func pages(from, to int) api.Range {
	return api.Range{From: from, To: to}
}

// same: words and a call say the same, read and written.
func same(t *testing.T, w Words, want Call) {
	t.Helper()
	if c, e := Read(w); c != want || e != api.OK {
		t.Errorf("Read(%#x) = %+v, %d; want %+v", w, c, e, want)
	}
	if got, e := Write(want); got != w || e != api.OK {
		t.Errorf("Write(%+v) = %#x, %d; want %#x", want, got, e, w)
	}
}

// noWords: these are no call's.
func noWords(t *testing.T, w Words) {
	t.Helper()
	if c, e := Read(w); c != (Call{}) || e != api.ErrInval {
		t.Errorf("Read(%#x) = %+v, %d; want ErrInval", w, c, e)
	}
}

// noCall: there are no words for it.
func noCall(t *testing.T, c Call) {
	t.Helper()
	if w, e := Write(c); w != (Words{}) || e != api.ErrInval {
		t.Errorf("Write(%+v) = %#x, %d; want ErrInval", c, w, e)
	}
}

// P15.1: the chapter's examples.
func TestExamples(t *testing.T) {
	same(t, Words{1, 5, 2, 3}, Call{Op: Map, Pages: pages(5, 7), Perm: all})
	noWords(t, Words{4, 4, 8})
	noWords(t, Words{14, 0, 0, 0, 0, 1})
	noWords(t, Words{0})
	noWords(t, Words{17})
	noWords(t, Words{0, 5, 2, 3})
	noWords(t, Words{17, 5, 2, 3})
}

// spelling is a call and its words.
type spelling struct {
	words Words
	call  Call
}

// ordinary: of each Op one call, whose words that it uses are neither its least nor its greatest.
func ordinary() []spelling {
	return []spelling{
		{Words{1, 20, 7, 1}, Call{Op: Map, Pages: pages(20, 27), Perm: both}},
		{Words{2, 20, 7}, Call{Op: Unmap, Pages: pages(20, 27)}},
		{Words{3, 20, 7, 2}, Call{Op: Protect, Pages: pages(20, 27), Perm: exec}},
		{Words{4, 0x5010, 4}, Call{Op: Load, Addr: 0x5010, Size: 4}},
		{Words{5, 0x5010, 4, 0xabcd}, Call{Op: Store, Addr: 0x5010, Size: 4, X: 0xabcd}},
		{Words{6, 20, 7, 1}, Call{Op: Offer, Pages: pages(20, 21), Perm: api.Perm{Write: true}, Id: 7}},
		{Words{7, 50, 20}, Call{Op: Accept, Pages: pages(20, 21), Id: 50}},
		{Words{8, 50}, Call{Op: Revoke, Id: 50}},
		{Words{9, 50}, Call{Op: Leave, Id: 50}},
		{Words{10, 0x5013}, Call{Op: Handler, Addr: 0x5013}},
		{Words{11}, Call{Op: Return}},
		{Words{12, 40}, Call{Op: Spawn, Id: 40}},
		{Words{13}, Call{Op: Exit}},
		{Words{14}, Call{Op: Yield}},
		{Words{15, 4, 1, 2, 3}, Call{Op: Reckon, Id: 5, A: 1, B: 2, D: 3}},
		{Words{16, 2, 0x1234}, Call{Op: Move, Id: 2, X: 0x1234}},
	}
}

// P15.1, P15.2: each Op, by an ordinary call, and by the numbers that the chapter gives them.
func TestEachOp(t *testing.T) {
	for i, s := range ordinary() {
		if s.call.Op != i+1 {
			t.Errorf("Op %d has the number %d", i+1, s.call.Op)
		}
		same(t, s.words, s.call)
	}
}

// P15.1: first words that are no Op, also such as would be one by their low bits, in front of the words of each.
func TestNoOp(t *testing.T) {
	for _, s := range ordinary() {
		op := s.words[0]
		for _, x := range []uint64{0, 17, 18, 31, 32, op + 1<<8, op + 1<<16, op + 1<<31, op + 1<<32, half - 1, half, half + op, most - 16, most - op + 1, most - 1, most} {
			w := s.words
			w[0] = x
			noWords(t, w)
			noWords(t, Words{x})
		}
	}
}

// bounds is which values a word may have, from least to greatest.
type bounds struct {
	least, greatest uint64
}

// allowed: of each Op the bounds of the words behind it, where the others are those of the ordinary call.
func allowed() map[uint64][]bounds {
	page := bounds{0, topPage - 1}
	some := []bounds{{0, topPage - 7}, {1, maxPages}}
	return map[uint64][]bounds{
		Map:     {some[0], some[1], {0, 3}},
		Unmap:   some,
		Protect: {some[0], some[1], {0, 3}},
		Store:   {{}, {}, {0, 1<<32 - 1}}, // of its place see below
		Offer:   {page, {0, 15}, {0, 1}},
		Accept:  {{0, 255}, page},
		Revoke:  {{0, 255}},
		Leave:   {{0, 255}},
		Handler: {{0, top - 1}},
		Spawn:   {{0, 1 << 20}},
		Reckon:  {{0, 7}, {0, 3}, {0, 3}, {0, 3}},
		Move:    {{0, 3}, {0, most}},
	}
}

// P15.1, P15.2: each word of each Op at its least and its greatest value, one beyond either, and at great ones, also such as have a right value in their low half.
func TestEachWord(t *testing.T) {
	for _, s := range ordinary() {
		for i, b := range allowed()[s.words[0]] {
			if b == (bounds{}) {
				continue
			}
			for _, x := range []uint64{b.least, b.least + 1, b.greatest - 1, b.greatest, b.least - 1, b.greatest + 1, b.least + 1<<32, b.least + 1<<48, half - 1, half, half + b.least, half + b.greatest, most - 1, most} {
				w := s.words
				w[i+1] = x
				if x < b.least || x > b.greatest {
					noWords(t, w)
					continue
				}
				c, e := Read(w)
				if back, e2 := Write(c); e != api.OK || e2 != api.OK || back != w {
					t.Errorf("Read(%#x) = %+v, %d, and back: %#x, %d", w, c, e, back, e2)
				}
			}
		}
	}
}

// P15.1: what Read says of the words at their edges, field by field.
func TestEdgesSaid(t *testing.T) {
	same(t, Words{1, 0, 1, 0}, Call{Op: Map, Pages: pages(0, 1), Perm: read})
	same(t, Words{2, 0, maxPages}, Call{Op: Unmap, Pages: pages(0, maxPages)})
	same(t, Words{3, topPage - maxPages, maxPages, 3}, Call{Op: Protect, Pages: pages(topPage-maxPages, topPage), Perm: all})
	same(t, Words{4, 0, 8}, Call{Op: Load, Size: 8})
	same(t, Words{4, top - 1, 1}, Call{Op: Load, Addr: top - 1, Size: 1})
	same(t, Words{5, 0, 1, 0}, Call{Op: Store, Size: 1})
	same(t, Words{5, top - 8, 8, most}, Call{Op: Store, Addr: top - 8, Size: 8, X: most})
	same(t, Words{6, 0, 0, 0}, Call{Op: Offer, Pages: pages(0, 1)})
	same(t, Words{6, topPage - 1, 15, 1}, Call{Op: Offer, Pages: pages(topPage-1, topPage), Perm: api.Perm{Write: true}, Id: 15})
	same(t, Words{7, 0, 0}, Call{Op: Accept, Pages: pages(0, 1)})
	same(t, Words{7, 255, topPage - 1}, Call{Op: Accept, Pages: pages(topPage-1, topPage), Id: 255})
	same(t, Words{8}, Call{Op: Revoke})
	same(t, Words{8, 255}, Call{Op: Revoke, Id: 255})
	same(t, Words{9}, Call{Op: Leave})
	same(t, Words{9, 255}, Call{Op: Leave, Id: 255})
	same(t, Words{10}, Call{Op: Handler})
	same(t, Words{10, top - 1}, Call{Op: Handler, Addr: top - 1})
	same(t, Words{12}, Call{Op: Spawn})
	same(t, Words{12, 1 << 20}, Call{Op: Spawn, Id: 1 << 20})
	same(t, Words{15}, Call{Op: Reckon, Id: 1})
	same(t, Words{15, 7, 3, 3, 3}, Call{Op: Reckon, Id: 8, A: 3, B: 3, D: 3})
	same(t, Words{15, 0, 3, 0, 0}, Call{Op: Reckon, Id: 1, A: 3})
	same(t, Words{15, 0, 0, 3, 0}, Call{Op: Reckon, Id: 1, B: 3})
	same(t, Words{15, 0, 0, 0, 3}, Call{Op: Reckon, Id: 1, D: 3})
	same(t, Words{16}, Call{Op: Move})
	same(t, Words{16, 3, most}, Call{Op: Move, Id: 3, X: most})
	same(t, Words{16, 0, half}, Call{Op: Move, X: half})
}

// used: how many words an Op has, with its first one.
var used = [...]int{Map: 4, Unmap: 3, Protect: 4, Load: 3, Store: 4, Offer: 4, Accept: 3, Revoke: 2, Leave: 2, Handler: 2, Return: 1, Spawn: 2, Exit: 1, Yield: 1, Reckon: 5, Move: 3}

// P15.1, P15.2: words that an Op doesn't use and that aren't 0, alone and several.
func TestUnusedWords(t *testing.T) {
	for _, s := range ordinary() {
		for i := used[s.words[0]]; i < 6; i++ {
			for _, x := range []uint64{1, 2, 1 << 8, 1 << 31, 1 << 32, half, most} {
				w := s.words
				w[i] = x
				noWords(t, w)
				w[5] = x
				noWords(t, w)
			}
		}
	}
}

// P15.1: pages that begin below TopPage, and end below it, at it and above it; none of them, MaxPages, and one more.
func TestPages(t *testing.T) {
	for _, op := range []uint64{Map, Unmap, Protect} {
		perm := read
		if op == Unmap {
			perm = api.Perm{}
		}
		for _, from := range []uint64{0, 1, 511, 1 << 20, topPage - maxPages - 1, topPage - maxPages, topPage - maxPages + 1, topPage - 2, topPage - 1} {
			for _, many := range []uint64{1, 2, 3, maxPages - 1, maxPages} {
				w := Words{op, from, many}
				if from+many > topPage {
					noWords(t, w)
				} else {
					same(t, w, Call{Op: int(op), Pages: pages(int(from), int(from+many)), Perm: perm})
				}
			}
			for _, many := range []uint64{0, maxPages + 1, 1 << 32, 1<<32 + 1, half, half + 1, most - from, most, -from, 1 - from, topPage - from + 1} {
				if many < 1 || many > maxPages || from+many > topPage {
					noWords(t, Words{op, from, many})
				}
			}
		}
		for _, from := range []uint64{topPage, topPage + 1, 1 << 36, half, most - 1, most} {
			for _, many := range []uint64{0, 1, 2, maxPages, -from, 1 - from, most} {
				noWords(t, Words{op, from, many})
			}
		}
	}
}

// P15.1, P15.2: perms 0 to 4, and Write of Offer, where User isn't said.
func TestPerms(t *testing.T) {
	for _, op := range []uint64{Map, Protect} {
		for x, perm := range []api.Perm{read, both, exec, all} {
			same(t, Words{op, 9, 2, uint64(x)}, Call{Op: int(op), Pages: pages(9, 11), Perm: perm})
		}
		for _, x := range []uint64{4, 5, 7, 8, 1 << 32, half + 1, most} {
			noWords(t, Words{op, 9, 2, x})
		}
	}
	noWords(t, Words{2, 9, 2, 1}) // Unmap has none
	for x := range uint64(2) {
		same(t, Words{6, 9, 2, x}, Call{Op: Offer, Pages: pages(9, 10), Perm: api.Perm{Write: x == 1}, Id: 2})
	}
	for _, x := range []uint64{2, 3, 4, half + 1, most} {
		noWords(t, Words{6, 9, 2, x})
	}
}

// P15.1: addresses that the size divides, and others, up to the greatest; sizes that are none.
func TestPlaces(t *testing.T) {
	addrs := []uint64{0, 1, 2, 3, 4, 5, 6, 7, 8, 12, 16, 4095, 4096, 1<<32 - 1, 1 << 32, top - 8, top - 7, top - 6, top - 4, top - 2, top - 1, top, top + 1, top + 8, 1 << 48, half, half + 8, most - 7, most}
	for _, addr := range addrs {
		for _, size := range []uint64{0, 1, 2, 3, 4, 5, 6, 7, 8, 9, 10, 12, 16, 32, 64, 1 << 32, 1<<32 + 1, half, half + 1, half + 8, most - 7, most} {
			load, store := Words{4, addr, size}, Words{5, addr, size, 200}
			good := addr < top && (size == 1 || size == 2 || size == 4 || size == 8) && addr&(size-1) == 0
			if !good {
				noWords(t, load)
				noWords(t, store)
				continue
			}
			same(t, load, Call{Op: Load, Addr: addr, Size: int(size)})
			same(t, store, Call{Op: Store, Addr: addr, Size: int(size), X: 200})
		}
		if addr < top { // of Handler any address will do
			same(t, Words{10, addr}, Call{Op: Handler, Addr: addr})
		} else {
			noWords(t, Words{10, addr})
		}
	}
}

// P15.1: what is stored has as many bytes as the size says, and what is moved any.
func TestNumbers(t *testing.T) {
	for size, beyond := range map[uint64]uint64{1: 1 << 8, 2: 1 << 16, 4: 1 << 32} {
		for _, x := range []uint64{0, 1, beyond/2 - 1, beyond / 2, beyond - 2, beyond - 1} {
			same(t, Words{5, 64, size, x}, Call{Op: Store, Addr: 64, Size: int(size), X: x})
		}
		for _, x := range []uint64{beyond, beyond + 1, 2 * beyond, half, most - beyond + 1, most} {
			noWords(t, Words{5, 64, size, x})
		}
	}
	for _, x := range []uint64{0, 1, 1 << 32, half - 1, half, most - 1, most} {
		same(t, Words{5, 64, 8, x}, Call{Op: Store, Addr: 64, Size: 8, X: x})
		same(t, Words{16, 1, x}, Call{Op: Move, Id: 1, X: x})
	}
	noWords(t, Words{4, 64, 8, 1}) // Load has none
}
