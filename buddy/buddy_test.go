package buddy

import (
	"maps"
	"math"
	"math/rand"
	"slices"
	"testing"

	"demesne/api"
)

// odd: numbers of all kinds, of which most are no order and no frame.
var odd = []int{math.MinInt, math.MinInt + 1, -1 << 20, -1024, -11, -2, -1, 0, 1, 2, 3, 4, 7, 8, 9, 10, 11, 12, 63, 64, 65, 1023, 1024, 1<<20 - 1, 1 << 20, 1<<20 + 1, 1 << 32, math.MaxInt - 1, math.MaxInt}

// ranges: each two numbers are one.
func ranges(ends ...int) []api.Range {
	var l []api.Range
	for i := 0; i < len(ends); i += 2 {
		l = append(l, api.Range{From: ends[i], To: ends[i+1]})
	}
	return l
}

// made: a Buddy with these ranges' frames.
func made(t *testing.T, ends ...int) *Buddy {
	t.Helper()
	b, e := New(ranges(ends...))
	if e != api.OK || b == nil {
		t.Fatalf("New(%v) = %v, %d", ends, b, e)
	}
	return b
}

func wantTaken(t *testing.T, b *Buddy, order, want int) {
	t.Helper()
	if at, e := b.Take(order); at != want || e != api.OK {
		t.Fatalf("Take(%d) = %d, %d; want %d", order, at, e, want)
	}
}

func wantGiven(t *testing.T, b *Buddy, at ...int) {
	t.Helper()
	for _, a := range at {
		if e := b.Give(a); e != api.OK {
			t.Fatalf("Give(%d) = %d", a, e)
		}
	}
}

// free: by order, the free blocks.
type free map[int][]int

// looks: all that can be asked of a Buddy without changing it.
type looks struct {
	blocks free
	given  map[int]int // by the first frame: the order
	frames int
}

func look(b *Buddy) looks {
	l := looks{blocks: free{}, given: map[int]int{}, frames: b.Free()}
	for order := 0; order <= 10; order++ {
		if at := b.Blocks(order); len(at) > 0 {
			l.blocks[order] = at
		}
	}
	for _, at := range b.Given() {
		l.given[at] = b.Order(at)
	}
	return l
}

func (l looks) same(m looks) bool {
	return maps.EqualFunc(l.blocks, m.blocks, slices.Equal[[]int]) && maps.Equal(l.given, m.given) && l.frames == m.frames
}

// wantFree: just these blocks are free.
func wantFree(t *testing.T, b *Buddy, want free) {
	t.Helper()
	frames := 0
	for order := 0; order <= 10; order++ {
		if got := b.Blocks(order); !slices.Equal(got, want[order]) {
			t.Errorf("Blocks(%d) = %v; want %v", order, got, want[order])
		}
		frames += len(want[order]) << order
	}
	if b.Free() != frames {
		t.Errorf("Free() = %d; want %d", b.Free(), frames)
	}
}

// wantSame: nothing has changed.
func wantSame(t *testing.T, b *Buddy, before looks, what string, x int) {
	t.Helper()
	if after := look(b); !after.same(before) {
		t.Fatalf("%s(%d) has changed %v to %v", what, x, before, after)
	}
}

// P7.1: the chapter's example.
func TestExample(t *testing.T) {
	b := made(t, 1, 8)
	wantFree(t, b, free{0: {1}, 1: {2}, 2: {4}})
	wantTaken(t, b, 0, 1)
	wantTaken(t, b, 0, 2)
	wantFree(t, b, free{0: {3}, 2: {4}})
	wantGiven(t, b, 2)
	wantFree(t, b, free{1: {2}, 2: {4}})
	if at, e := b.Take(3); at != 0 || e != api.ErrNoMem {
		t.Errorf("Take(3) = %d, %d", at, e)
	}
}

// P7.1: a New that is refused answers no Buddy; too many ranges come ahead of ranges that aren't in form.
func TestNewErrors(t *testing.T) {
	many := make([]api.Range, 65)
	for i := range many {
		many[i] = api.Range{From: 2 * i, To: 2*i + 1}
	}
	turned := slices.Clone(many)
	turned[0] = api.Range{From: 5, To: 3}
	all := make([]api.Range, 1000)
	for _, c := range []struct {
		l    []api.Range
		want api.Errno
	}{
		{many, api.ErrBig},
		{turned, api.ErrBig},
		{all, api.ErrBig},
		{all[:65], api.ErrBig},
		{all[:64], api.ErrForm},
		{turned[:64], api.ErrForm},
		{ranges(0, 0), api.ErrForm},
		{ranges(7, 7), api.ErrForm},
		{ranges(8, 7), api.ErrForm},
		{ranges(1<<20, 1<<20), api.ErrForm},
		{ranges(0, 1<<20+1), api.ErrForm},
		{ranges(1<<20, 1<<20+1), api.ErrForm},
		{ranges(5, math.MaxInt), api.ErrForm},
		{ranges(math.MaxInt-1, math.MaxInt), api.ErrForm},
		{ranges(math.MaxInt, math.MinInt), api.ErrForm},
		{ranges(math.MinInt, math.MaxInt), api.ErrForm},
		{ranges(math.MinInt, 5), api.ErrForm},
		{ranges(-1, 5), api.ErrForm},
		{ranges(-5, -1), api.ErrForm},
		{ranges(3, 5, 4, 6), api.ErrForm},
		{ranges(3, 5, 3, 5), api.ErrForm},
		{ranges(3, 9, 4, 6), api.ErrForm},
		{ranges(4, 6, 0, 2), api.ErrForm},
		{ranges(4, 6, 0, 4), api.ErrForm},
		{ranges(0, 4, 4, 4), api.ErrForm},
		{ranges(0, 4, 6, 5), api.ErrForm},
		{ranges(0, 4, 6, 8, 7, 9), api.ErrForm},
		{ranges(0, 4, 6, 8, 10, 1<<20+1), api.ErrForm},
	} {
		if b, e := New(c.l); b != nil || e != c.want {
			t.Errorf("New(%v) = %v, %d; want %d", c.l, b, e, c.want)
		}
	}
}

// P7.1: 64 ranges may be, one that ends at 2^20 too, and none at all.
func TestNewEnds(t *testing.T) {
	var l []int
	for i := range 64 {
		l = append(l, 2*i+1, 2*i+2)
	}
	b := made(t, l...)
	if got := b.Blocks(0); len(got) != 64 || got[0] != 1 || got[63] != 127 || b.Free() != 64 {
		t.Errorf("64 ranges: %v", look(b))
	}
	wantFree(t, made(t, 1<<20-1, 1<<20), free{0: {1<<20 - 1}})
	wantFree(t, made(t, 1<<20-3, 1<<20), free{0: {1<<20 - 3}, 1: {1<<20 - 2}})
	wantFree(t, made(t, 0, 1), free{0: {0}})
	for _, none := range [][]api.Range{nil, {}} {
		b, e := New(none)
		if e != api.OK {
			t.Fatalf("New of none = %d", e)
		}
		wantFree(t, b, free{})
		if at, e := b.Take(0); at != 0 || e != api.ErrNoMem || len(b.Given()) != 0 {
			t.Errorf("Take of none = %d, %d", at, e)
		}
	}
	whole := made(t, 0, 1<<20)
	var tens []int
	for at := 0; at < 1<<20; at += 1024 {
		tens = append(tens, at)
	}
	wantFree(t, whole, free{10: tens})
}

// P7.1: ranges that meet are as one; blocks become one through several orders, and stop at order 10.
func TestNewMeets(t *testing.T) {
	wantFree(t, made(t, 0, 3, 3, 4), free{2: {0}})
	wantFree(t, made(t, 0, 1, 1, 2, 2, 3, 3, 4, 4, 5), free{2: {0}, 0: {4}})
	wantFree(t, made(t, 1, 2, 2, 3), free{0: {1, 2}})
	wantFree(t, made(t, 0, 1023, 1023, 1024), free{10: {0}})
	wantFree(t, made(t, 0, 1024, 1024, 2048), free{10: {0, 1024}})
	wantFree(t, made(t, 0, 1, 1, 2048), free{10: {0, 1024}})
	wantFree(t, made(t, 1024, 1025, 1025, 3072), free{10: {1024, 2048}})
	wantFree(t, made(t, 0, 4, 5, 8), free{2: {0}, 0: {5}, 1: {6}})
}

// P7.2: whatever the ranges, the free blocks are the greatest that their frames make.
func TestNewAll(t *testing.T) {
	for from := range 40 {
		for to := from + 1; to <= 40; to++ {
			wantFree(t, made(t, from, to), modelOf(from, to).free())
			for meet := from + 1; meet < to; meet++ {
				wantFree(t, made(t, from, meet, meet, to), modelOf(from, to).free())
			}
		}
	}
	rnd := rand.New(rand.NewSource(71))
	for range 300 {
		ends := someEnds(rnd, 5000)
		wantFree(t, made(t, ends...), modelOf(ends...).free())
	}
}

// P7.1: an order that isn't one, and no block that is great enough; nothing has changed.
func TestTakeErrors(t *testing.T) {
	b := made(t, 1, 8, 16, 24)
	wantTaken(t, b, 1, 2)
	before := look(b)
	for _, order := range odd {
		want := api.ErrNoMem
		if order < 0 || order > 10 {
			want = api.ErrArg
		} else if order <= 3 {
			continue
		}
		if at, e := b.Take(order); at != 0 || e != want {
			t.Errorf("Take(%d) = %d, %d; want %d", order, at, e, want)
		}
		wantSame(t, b, before, "Take", order)
	}
	empty := made(t)
	for _, order := range []int{-1, 11} {
		if _, e := empty.Take(order); e != api.ErrArg {
			t.Errorf("Take(%d) of none = %d", order, e)
		}
	}
}

// P7.1: free frames enough, but no block of the order.
func TestTakeScattered(t *testing.T) {
	b := made(t, 1, 3, 5, 7, 9, 11)
	if at, e := b.Take(1); at != 0 || e != api.ErrNoMem || b.Free() != 6 {
		t.Errorf("Take(1) = %d, %d", at, e)
	}
}

// P7.1: each order of a block of order 10; the lower half is given, the upper ones are free.
func TestTakeHalves(t *testing.T) {
	for order := 0; order <= 10; order++ {
		b := made(t, 1024, 2048)
		wantTaken(t, b, order, 1024)
		want := free{}
		for k := order; k < 10; k++ {
			want[k] = []int{1024 + 1<<k}
		}
		wantFree(t, b, want)
		if got := b.Given(); !slices.Equal(got, []int{1024}) || b.Order(1024) != order {
			t.Errorf("order %d: given %v, of order %d", order, got, b.Order(1024))
		}
	}
}

// P7.1: the least order that will do comes ahead of a lower frame; of one order the lowest frame.
func TestTakeWhich(t *testing.T) {
	b := made(t, 0, 4, 9, 12, 13, 14, 16, 18)
	wantFree(t, b, free{2: {0}, 0: {9, 13}, 1: {10, 16}})
	wantTaken(t, b, 0, 9)
	wantTaken(t, b, 0, 13)
	wantTaken(t, b, 0, 10)
	wantTaken(t, b, 1, 16)
	wantTaken(t, b, 1, 0)
	wantTaken(t, b, 0, 11)
	wantTaken(t, b, 0, 2)
	wantTaken(t, b, 0, 3)
	wantFree(t, b, free{})
	if got := b.Given(); !slices.Equal(got, []int{0, 2, 3, 9, 10, 11, 13, 16}) {
		t.Errorf("Given() = %v", got)
	}
	wantGiven(t, b, 13, 3, 11)
	wantTaken(t, b, 0, 3)
	wantTaken(t, b, 0, 11)
	wantTaken(t, b, 0, 13)
}

// P7.1: a higher order is halved only where none of the order itself is free, and the least of the higher ones.
func TestTakeHigher(t *testing.T) {
	b := made(t, 0, 1024, 2048, 2064, 4096, 4100)
	wantTaken(t, b, 1, 4096)
	wantTaken(t, b, 1, 4098)
	wantTaken(t, b, 1, 2048)
	wantFree(t, b, free{1: {2050}, 2: {2052}, 3: {2056}, 10: {0}})
	wantTaken(t, b, 3, 2056)
	wantTaken(t, b, 3, 0)
}

// P7.1: Give of what isn't the first frame of a given block: within one, free, never there, any number; nothing has changed.
func TestGiveErrors(t *testing.T) {
	b := made(t, 0, 64, 1024, 2048)
	wantTaken(t, b, 2, 0)
	wantTaken(t, b, 0, 4)
	wantTaken(t, b, 10, 1024)
	before := look(b)
	refuse := func(at int) {
		t.Helper()
		if at == 0 || at == 4 || at == 1024 {
			return
		}
		if e := b.Give(at); e != api.ErrNone {
			t.Errorf("Give(%d) = %d; want ErrNone", at, e)
		}
		if b.Order(at) != -1 {
			t.Errorf("Order(%d) = %d; want -1", at, b.Order(at))
		}
		wantSame(t, b, before, "Give", at)
	}
	for at := -10; at < 100; at++ {
		refuse(at)
	}
	for _, at := range odd {
		refuse(at)
	}
	if b.Order(0) != 2 || b.Order(4) != 0 || b.Order(1024) != 10 {
		t.Errorf("orders of what is given: %v", before.given)
	}
	wantGiven(t, b, 0)
	if b.Order(0) != -1 || b.Give(0) != api.ErrNone {
		t.Error("given back twice")
	}
}

// P7.1: what is given back becomes one with its buddy through all orders, and stops at order 10.
func TestGiveBecomesOne(t *testing.T) {
	b := made(t, 0, 2048)
	for at := range 2048 {
		wantTaken(t, b, 0, at)
	}
	for at := range 2048 {
		if at != 5 && at != 1029 {
			wantGiven(t, b, at)
		}
	}
	half := free{0: {4, 1028}, 1: {6, 1030}, 2: {0, 1024}}
	for k := 3; k < 10; k++ {
		half[k] = []int{1 << k, 1024 + 1<<k}
	}
	wantFree(t, b, half)
	wantGiven(t, b, 1029)
	wantGiven(t, b, 5)
	wantFree(t, b, free{10: {0, 1024}})
}

// P7.1: a neighbour that isn't the buddy, a buddy that is given or not there, and one that is free in part only, stay apart.
func TestGiveStaysApart(t *testing.T) {
	b := made(t, 0, 8)
	for at := range 8 {
		wantTaken(t, b, 0, at)
	}
	wantGiven(t, b, 1, 2)
	wantFree(t, b, free{0: {1, 2}})
	wantGiven(t, b, 6, 7)
	wantFree(t, b, free{0: {1, 2}, 1: {6}})
	wantGiven(t, b, 4)
	wantFree(t, b, free{0: {1, 2, 4}, 1: {6}})
	wantGiven(t, b, 3)
	wantFree(t, b, free{0: {1, 4}, 1: {2, 6}})
	wantGiven(t, b, 5)
	wantFree(t, b, free{0: {1}, 1: {2}, 2: {4}})
	wantGiven(t, b, 0)
	wantFree(t, b, free{3: {0}})
	odd := made(t, 1, 2)
	wantTaken(t, odd, 0, 1)
	wantGiven(t, odd, 1)
	wantFree(t, odd, free{0: {1}})
}

// P7.1: blocks of different orders that are given at once become one when all are back, in any order.
func TestGiveMixed(t *testing.T) {
	for _, back := range [][]int{{0, 2, 4, 8, 3}, {8, 4, 3, 2, 0}, {3, 0, 8, 2, 4}} {
		b := made(t, 0, 16)
		wantTaken(t, b, 1, 0)
		wantTaken(t, b, 0, 2)
		wantTaken(t, b, 2, 4)
		wantTaken(t, b, 3, 8)
		wantTaken(t, b, 0, 3)
		wantFree(t, b, free{})
		wantGiven(t, b, back...)
		wantFree(t, b, free{4: {0}})
	}
}

// P7.1: there are no blocks of an order that isn't one.
func TestBlocksOdd(t *testing.T) {
	b := made(t, 0, 1<<11-1)
	for _, order := range odd {
		n := len(b.Blocks(order))
		if want := order >= 0 && order <= 10; (n == 1) != want || !want && n != 0 {
			t.Errorf("Blocks(%d) = %v", order, b.Blocks(order))
		}
	}
}

// P7.1: where many blocks are free, the lowest still comes first, and the lists rise.
func TestMany(t *testing.T) {
	const n = 1 << 15
	b := made(t, 1024, 1024+n)
	for i := range n {
		wantTaken(t, b, 0, 1024+i)
	}
	rnd := rand.New(rand.NewSource(72))
	var evens []int
	for _, i := range rnd.Perm(n / 2) {
		wantGiven(t, b, 1024+2*i)
	}
	for i := range n / 2 {
		evens = append(evens, 1024+2*i)
	}
	wantFree(t, b, free{0: evens})
	if got := b.Given(); len(got) != n/2 || !slices.IsSorted(got) {
		t.Errorf("%d blocks are given", len(got))
	}
	for _, at := range evens {
		wantTaken(t, b, 0, at)
	}
	for _, i := range rnd.Perm(n) {
		wantGiven(t, b, 1024+i)
	}
	if got := b.Blocks(10); len(got) != n/1024 || got[0] != 1024 || b.Free() != n {
		t.Errorf("all is back: %v", look(b))
	}
}

// P2 (K3): what is handed in stays as it is, and isn't kept; what is answered is the receiver's own.
func TestNobodyElses(t *testing.T) {
	room := ranges(0, 3, 3, 4, 9, 10, 70, 71)
	before := slices.Clone(room)
	b, _ := New(room[:3])
	if !slices.Equal(room, before) {
		t.Errorf("New has changed %v to %v", before, room)
	}
	clear(room)
	wantFree(t, b, free{2: {0}, 0: {9}})
	wantTaken(t, b, 0, 9)
	wantTaken(t, b, 0, 0)
	seen := look(b)
	for _, l := range [][]int{b.Blocks(0), b.Blocks(1), b.Given()} {
		for i := range l {
			l[i] = 77
		}
		_ = append(l[:0], 78)
	}
	wantSame(t, b, seen, "a receiver of lists", 0)
	c := made(t, 0, 4, 9, 10)
	wantTaken(t, c, 2, 0)
	wantSame(t, b, seen, "another Buddy's Take", 2)
	kept := b.Given()
	wantTaken(t, b, 0, 1)
	if !slices.Equal(kept, []int{0, 9}) {
		t.Errorf("a list that was answered has changed: %v", kept)
	}
}

// model goes by frames: which are free, and which blocks are given.
type model struct {
	isFree []bool
	given  map[int]int
}

func modelOf(ends ...int) *model {
	m := &model{given: map[int]int{}}
	for _, r := range ranges(ends...) {
		for len(m.isFree) < (r.To+1023)/1024*1024 {
			m.isFree = append(m.isFree, false)
		}
		m.set(r.From, r.To-r.From, true)
	}
	return m
}

func (m *model) set(at, n int, isFree bool) {
	for f := at; f < at+n; f++ {
		m.isFree[f] = isFree
	}
}

// free: the greatest blocks all of whose frames are free.
func (m *model) free() free {
	all := free{}
	for at := 0; at < len(m.isFree); at += 1024 {
		m.within(all, at, 10)
	}
	return all
}

func (m *model) within(all free, at, order int) {
	if !slices.Contains(m.isFree[at:at+1<<order], false) {
		all[order] = append(all[order], at)
	} else if order > 0 {
		m.within(all, at, order-1)
		m.within(all, at+1<<(order-1), order-1)
	}
}

func (m *model) take(order int) (int, api.Errno) {
	if order < 0 || order > 10 {
		return 0, api.ErrArg
	}
	all := m.free()
	for k := order; k <= 10; k++ {
		if len(all[k]) > 0 {
			m.set(all[k][0], 1<<order, false)
			m.given[all[k][0]] = order
			return all[k][0], api.OK
		}
	}
	return 0, api.ErrNoMem
}

func (m *model) give(at int) api.Errno {
	order, ok := m.given[at]
	if !ok {
		return api.ErrNone
	}
	delete(m.given, at)
	m.set(at, 1<<order, true)
	return api.OK
}

func (m *model) looks() looks {
	l := looks{blocks: m.free(), given: maps.Clone(m.given)}
	for _, isFree := range m.isFree {
		if isFree {
			l.frames++
		}
	}
	return l
}

// someEnds: ends of up to 64 ranges that may stand beside each other, below top.
func someEnds(rnd *rand.Rand, top int) []int {
	var ends []int
	at := 0
	for range 1 + rnd.Intn(64) {
		from := at
		if rnd.Intn(2) == 0 {
			from += rnd.Intn(4)
		}
		to := from + 1 + rnd.Intn(1<<rnd.Intn(12))
		if to > top {
			break
		}
		ends = append(ends, from, to)
		at = to
	}
	return ends
}

// wantWhole: each frame is in one block, or in none if it never was there.
func wantWhole(t *testing.T, b *Buddy, was []bool) {
	t.Helper()
	blocks := make([]int, len(was))
	count := func(at, order int) {
		if at%(1<<order) != 0 {
			t.Errorf("a block of order %d at %d", order, at)
		}
		for f := at; f < at+1<<order; f++ {
			blocks[f]++
		}
	}
	l := look(b)
	for order, all := range l.blocks {
		for _, at := range all {
			count(at, order)
		}
	}
	for at, order := range l.given {
		count(at, order)
	}
	for f, n := range blocks {
		if n != 0 != was[f] || n > 1 {
			t.Errorf("frame %d is in %d blocks", f, n)
		}
	}
}

// P7.1, P7.2, P7.3: any calls, beside the model; when all is given back, the free blocks are as at the beginning.
func TestModel(t *testing.T) {
	rnd := rand.New(rand.NewSource(73))
	for round := range 60 {
		ends := someEnds(rnd, 1+rnd.Intn(5000))
		b, m := made(t, ends...), modelOf(ends...)
		first, was := look(b), slices.Clone(m.isFree)
		for range 150 {
			if rnd.Intn(5) < 3 {
				order := min(rnd.Intn(14)-1, rnd.Intn(12))
				at, e := b.Take(order)
				if wantAt, want := m.take(order); at != wantAt || e != want {
					t.Fatalf("round %d: Take(%d) = %d, %d; want %d, %d", round, order, at, e, wantAt, want)
				}
			} else {
				at := rnd.Intn(len(m.isFree)+10) - 5
				if given := b.Given(); len(given) > 0 && rnd.Intn(4) > 0 {
					at = given[rnd.Intn(len(given))]
				}
				if e, want := b.Give(at), m.give(at); e != want {
					t.Fatalf("round %d: Give(%d) = %d; want %d", round, at, e, want)
				}
			}
			if got, want := look(b), m.looks(); !got.same(want) {
				t.Fatalf("round %d: %v; want %v", round, got, want)
			}
		}
		wantWhole(t, b, was)
		given := b.Given()
		for _, i := range rnd.Perm(len(given)) {
			wantGiven(t, b, given[i])
		}
		if got := look(b); !got.same(first) {
			t.Fatalf("round %d: all is back: %v; at the beginning %v", round, got, first)
		}
	}
}

// P7.3, P2 (rule 8 of the language): what is taken and given back again and again leaves nothing behind.
func TestNothingIsLeft(t *testing.T) {
	b := made(t, 1, 1024)
	first := look(b)
	for i := range 3000 {
		at, e := b.Take(i % 10)
		if e != api.OK {
			t.Fatalf("Take(%d) = %d", i%10, e)
		}
		wantGiven(t, b, at)
	}
	wantSame(t, b, first, "Take and Give", 0)
	for order := range b.free {
		if s := &b.free[order]; len(s.heap) != len(s.places) || len(s.heap) > 1 {
			t.Errorf("order %d keeps %d places and %d in the heap", order, len(s.places), len(s.heap))
		}
	}
}
