package region

import (
	"math"
	"math/rand"
	"slices"
	"testing"

	"demesne/api"
)

// The uses that the tests take.
var (
	read  = api.Perm{User: true}
	write = api.Perm{Write: true, User: true}
	exec  = api.Perm{User: true, Exec: true}
)

const top = 1 << 35

func at(from, to int) api.Range {
	return api.Range{From: from, To: to}
}

func reg(from, to int, m api.Perm, kind int) Region {
	return Region{Pages: at(from, to), Perm: m, Kind: kind}
}

// many: so many regions of one page, with a hole of one page behind each, from a page on.
func many(n, from int) List {
	var l List
	for i := range n {
		l = append(l, reg(from+2*i, from+2*i+1, write, 0))
	}
	return l
}

// call: one of Add, Cut and Protect, as the tests hand it about.
type call func(List) (List, api.Errno)

func add(r Region) call {
	return func(l List) (List, api.Errno) {
		return Add(l, r)
	}
}

func cut(p api.Range) call {
	return func(l List) (List, api.Errno) {
		return Cut(l, p)
	}
}

func protect(p api.Range, m api.Perm) call {
	return func(l List) (List, api.Errno) {
		return Protect(l, p, m)
	}
}

// want: the answer is this list, and error; what was handed in, and the room behind it, is as it was.
func want(t *testing.T, what string, f call, l List, list List, err api.Errno) {
	t.Helper()
	room := append(slices.Clone(l), many(5, 1000)...)
	before := slices.Clone(room)
	got, e := f(room[:len(l):len(room)])
	if e != err || !slices.Equal(got, list) {
		t.Errorf("%s of %v = %v, %d; want %v, %d", what, l, got, e, list, err)
	}
	if !slices.Equal(room, before) {
		t.Errorf("%s has changed what it was handed: %v; want %v", what, room, before)
	}
	if e == api.OK && !Good(got) {
		t.Errorf("%s answers %v, which isn't good", what, got)
	}
}

// P10.2: the chapter's example.
func TestExample(t *testing.T) {
	w := api.Perm{Write: true}
	l, _ := Add(nil, reg(0, 4, w, 0))
	want(t, "Add", add(reg(4, 6, w, 0)), l, List{reg(0, 6, w, 0)}, api.OK)
	want(t, "Cut", cut(at(1, 2)), List{reg(0, 6, w, 0)}, List{reg(0, 1, w, 0), reg(2, 6, w, 0)}, api.OK)
	two := List{reg(0, 1, w, 0), reg(2, 6, w, 0)}
	want(t, "Protect", protect(at(2, 3), api.Perm{}), two, List{reg(0, 1, w, 0), reg(2, 3, api.Perm{}, 0), reg(3, 6, w, 0)}, api.OK)
	want(t, "Protect", protect(at(1, 3), w), two, nil, api.ErrNone)
}

// P10.1: which lists are good, with their edges.
func TestGood(t *testing.T) {
	for i, l := range []List{
		nil,
		{},
		{reg(0, 1, read, 0)},
		{reg(0, top, read, 0)},
		{reg(top-1, top, read, 0)},
		{reg(0, 1, read, 0), reg(2, 3, read, 0)},
		{reg(0, 1, read, 0), reg(1, 2, write, 0)},
		{reg(0, 1, read, 0), reg(1, 2, exec, 0)},
		{reg(0, 1, api.Perm{}, 0), reg(1, 2, api.Perm{User: true}, 0)},
		{reg(0, 1, read, 0), reg(1, 2, read, 1)},
		{reg(0, 1, read, math.MinInt), reg(1, 2, read, math.MaxInt)},
		{reg(0, 1<<16, read, 0), reg(1<<16, 1<<20, write, 0)},
		many(64, 0),
		many(64, top-127),
	} {
		if !Good(l) {
			t.Errorf("list %d isn't good", i)
		}
	}
}

// P10.1: which lists aren't good, with their edges.
func TestNotGood(t *testing.T) {
	for i, l := range []List{
		{reg(0, 0, read, 0)},
		{reg(5, 5, read, 0)},
		{reg(3, 1, read, 0)},
		{reg(-1, 1, read, 0)},
		{reg(-2, -1, read, 0)},
		{reg(0, top+1, read, 0)},
		{reg(top, top+1, read, 0)},
		{reg(top, top, read, 0)},
		{reg(math.MinInt, math.MaxInt, read, 0)},
		{reg(math.MaxInt, math.MinInt, read, 0)},
		{reg(0, 1, read, 0), reg(1, 2, read, 0)},
		{reg(0, 1, write, 7), reg(1, 2, write, 7)},
		{reg(0, 2, read, 0), reg(1, 3, write, 0)},
		{reg(2, 3, read, 0), reg(0, 1, read, 0)},
		{reg(0, 3, read, 0), reg(0, 3, write, 0)},
		{reg(0, 3, read, 0), reg(2, 2, write, 0)},
		{reg(0, 3, read, 0), reg(5, 5, write, 0), reg(7, 8, read, 0)},
		{reg(0, 1, read, 0), reg(2, 3, read, 0), reg(3, 4, read, 0)},
		many(65, 0),
		many(1000, 0),
	} {
		if Good(l) {
			t.Errorf("list %d is good", i)
		}
	}
}

// P10.1: Find tells the first region that has the page, of any list.
func TestFind(t *testing.T) {
	least, most := math.MinInt, math.MaxInt
	l := List{reg(4, 6, read, 1), reg(9, 7, write, 2), reg(5, 8, exec, 3), reg(-4, -2, write, 4), reg(least, least+2, read, 5), reg(most-2, most, read, 6), reg(0, 0, read, 7)}
	kinds := map[int]int{4: 1, 5: 1, 6: 3, 7: 3, -4: 4, -3: 4, least: 5, least + 1: 5, most - 2: 6, most - 1: 6}
	for _, page := range []int{least, least + 1, least + 2, -5, -4, -3, -2, -1, 0, 3, 4, 5, 6, 7, 8, 9, 1 << 35, most - 3, most - 2, most - 1, most} {
		r, ok := Find(l, page)
		kind, has := kinds[page]
		if ok != has || r.Kind != kind {
			t.Errorf("Find(%d) = %v, %v; want kind %d, %v", page, r, ok, kind, has)
		}
		if has && !slices.Contains(l, r) || !has && r != (Region{}) {
			t.Errorf("Find(%d) = %v", page, r)
		}
	}
	if r, ok := Find(nil, 0); ok || r != (Region{}) {
		t.Errorf("Find in no list = %v, %v", r, ok)
	}
	if r, ok := Find(many(100, 0), 198); !ok || r != reg(198, 199, write, 0) {
		t.Errorf("Find in a long list = %v, %v", r, ok)
	}
}

// P10.1: Count sums over all regions, of any list, also of those that have the same pages.
func TestCount(t *testing.T) {
	least, most := math.MinInt, math.MaxInt
	l := List{reg(4, 6, read, 1), reg(9, 7, write, 2), reg(5, 8, exec, 3), reg(5, 5, read, 4)}
	for _, c := range []struct {
		l    List
		p    api.Range
		want int
	}{
		{l, at(0, 10), 5},
		{l, at(5, 6), 2},
		{l, at(4, 5), 1},
		{l, at(6, 8), 2},
		{l, at(8, 10), 0},
		{l, at(0, 4), 0},
		{l, at(5, 5), 0},
		{l, at(6, 4), 0},
		{l, at(10, 0), 0},
		{l, at(-10, 5), 1},
		{nil, at(0, 10), 0},
		{List{}, at(0, 10), 0},
		{many(100, 0), at(0, 1000), 100},
		{many(100, 0), at(3, 7), 2},
		{List{reg(0, top, read, 0)}, at(0, top), top},
		{List{reg(0, most, read, 0)}, at(0, most), most},
		{List{reg(0, most, read, 0)}, at(most-3, most), 3},
		{List{reg(most-3, most, read, 0)}, at(0, most), 3},
		{List{reg(least, -1, read, 0)}, at(least, -1), most},
		{List{reg(least, least+5, read, 0)}, at(least, least+2), 2},
		{List{reg(least, least+5, read, 0)}, at(-5, -3), 0},
		{List{reg(-1, least, read, 0)}, at(least, -1), 0},
		{List{reg(least, least+2, read, 0)}, at(most-2, most), 0},
		{List{reg(most-2, most, read, 0)}, at(least, least+2), 0},
		{List{reg(most, least, read, 0)}, at(0, 10), 0},
		{List{reg(0, 10, read, 0)}, at(most, least), 0},
	} {
		if n := Count(c.l, c.p); n != c.want {
			t.Errorf("Count(%v, %v) = %d; want %d", c.l, c.p, n, c.want)
		}
	}
}

// P10.2: pages that aren't right are refused ahead of all else, those that are just right are taken.
func TestArg(t *testing.T) {
	bad := List{reg(3, 1, read, 0)}
	for _, p := range []api.Range{
		at(-1, 2), at(-1, 0), at(0, 0), at(3, 3), at(4, 3), at(top, top), at(top-1, top+1), at(top, top+1), at(0, 1<<16+1), at(top-1<<16-1, top), at(0, top),
		at(math.MinInt, 1), at(math.MinInt, math.MaxInt), at(math.MaxInt, math.MinInt), at(0, math.MaxInt), at(math.MaxInt-1, math.MaxInt), at(math.MinInt, math.MinInt+1),
	} {
		for _, l := range []List{nil, {reg(0, 6, read, 0)}, bad, many(65, 0)} {
			want(t, "Add", add(Region{Pages: p}), l, nil, api.ErrArg)
			want(t, "Cut", cut(p), l, nil, api.ErrArg)
			want(t, "Protect", protect(p, write), l, nil, api.ErrArg)
		}
	}
	for _, p := range []api.Range{at(0, 1), at(0, 1<<16), at(5, 5+1<<16), at(top-1, top), at(top-1<<16, top)} {
		one := List{{Pages: p, Perm: read, Kind: 3}}
		want(t, "Add", add(one[0]), nil, one, api.OK)
		want(t, "Cut", cut(p), one, nil, api.OK)
		want(t, "Protect", protect(p, write), one, List{{Pages: p, Perm: write, Kind: 3}}, api.OK)
	}
}

// P10.2: lists that aren't good are refused ahead of what stands in them.
func TestForm(t *testing.T) {
	for _, l := range []List{
		{reg(3, 1, read, 0)},
		{reg(0, 4, read, 0), reg(4, 6, read, 0)},
		{reg(4, 6, read, 0), reg(0, 4, read, 0)},
		{reg(0, 4, read, 0), reg(3, 6, write, 0)},
		{reg(0, top+1, read, 0)},
		{reg(-1, 4, read, 0)},
		many(65, 0),
	} {
		for _, p := range []api.Range{at(0, 1), at(1, 2), at(1, 9), at(100, 200)} {
			want(t, "Add", add(Region{Pages: p}), l, nil, api.ErrForm)
			want(t, "Cut", cut(p), l, nil, api.ErrForm)
			want(t, "Protect", protect(p, write), l, nil, api.ErrForm)
		}
	}
}

// P10.2: what Add says of pages that are there, and of regions that would be too many.
func TestAddErrors(t *testing.T) {
	l := List{reg(2, 4, read, 0), reg(6, 8, read, 0)}
	for _, p := range []api.Range{at(2, 4), at(2, 3), at(3, 4), at(0, 3), at(3, 6), at(0, 10), at(4, 7), at(7, 9), at(7, 8), at(3, 7)} {
		want(t, "Add", add(Region{Pages: p, Perm: read}), l, nil, api.ErrThere)
	}
	full := many(64, 10)
	want(t, "Add", add(reg(10, 11, write, 0)), full, nil, api.ErrThere)
	want(t, "Add", add(reg(0, 9, write, 0)), full, nil, api.ErrBig)
	want(t, "Add", add(reg(11, 12, read, 0)), full, nil, api.ErrBig)
	want(t, "Add", add(reg(11, 12, write, 1)), full, nil, api.ErrBig)
	want(t, "Add", add(reg(500, 501, write, 0)), full, nil, api.ErrBig)
	want(t, "Add", add(reg(0, 1, write, 0)), full[:63], append(List{reg(0, 1, write, 0)}, full[:63]...), api.OK)
}

// P10.2: a list of 64 regions takes pages that make one with others.
func TestAddToFull(t *testing.T) {
	full := many(64, 10)
	between := append(List{reg(10, 13, write, 0)}, full[2:]...)
	want(t, "Add", add(reg(11, 12, write, 0)), full, between, api.OK)
	ahead := append(List{reg(9, 11, write, 0)}, full[1:]...)
	want(t, "Add", add(reg(9, 10, write, 0)), full, ahead, api.OK)
	behind := append(slices.Clone(full[:63]), reg(136, 140, write, 0))
	want(t, "Add", add(reg(137, 140, write, 0)), full, behind, api.OK)
}

// P10.2: Add ahead of, between and behind regions that are alike and unlike.
func TestAdd(t *testing.T) {
	l := List{reg(2, 4, read, 0), reg(6, 8, write, 0)}
	a, b := l[0], l[1]
	for _, c := range []struct {
		r    Region
		want List
	}{
		{reg(0, 1, read, 0), List{reg(0, 1, read, 0), a, b}},
		{reg(0, 2, read, 0), List{reg(0, 4, read, 0), b}},
		{reg(0, 2, write, 0), List{reg(0, 2, write, 0), a, b}},
		{reg(0, 2, read, 1), List{reg(0, 2, read, 1), a, b}},
		{reg(4, 5, read, 0), List{reg(2, 5, read, 0), b}},
		{reg(4, 6, read, 0), List{reg(2, 6, read, 0), b}},
		{reg(4, 6, write, 0), List{a, reg(4, 8, write, 0)}},
		{reg(4, 6, exec, 0), List{a, reg(4, 6, exec, 0), b}},
		{reg(5, 6, write, 0), List{a, reg(5, 8, write, 0)}},
		{reg(5, 6, write, -1), List{a, reg(5, 6, write, -1), b}},
		{reg(8, 9, write, 0), List{a, reg(6, 9, write, 0)}},
		{reg(8, 9, read, 0), List{a, b, reg(8, 9, read, 0)}},
		{reg(top-1, top, read, 0), List{a, b, reg(top-1, top, read, 0)}},
	} {
		want(t, "Add", add(c.r), l, c.want, api.OK)
	}
	want(t, "Add", add(reg(4, 6, read, 0)), List{reg(2, 4, read, 0), reg(6, 8, read, 0)}, List{reg(2, 8, read, 0)}, api.OK)
	want(t, "Add", add(reg(1<<16, 1<<17, read, 0)), List{reg(0, 1<<16, read, 0)}, List{reg(0, 1<<17, read, 0)}, api.OK)
}

// P10.2: Cut in the midst of a region, of several, and of none.
func TestCut(t *testing.T) {
	l := List{reg(2, 5, read, 0), reg(5, 8, write, 1), reg(10, 12, read, 0)}
	a, b, c := l[0], l[1], l[2]
	for _, x := range []struct {
		p    api.Range
		want List
	}{
		{at(3, 4), List{reg(2, 3, read, 0), reg(4, 5, read, 0), b, c}},
		{at(2, 3), List{reg(3, 5, read, 0), b, c}},
		{at(4, 5), List{reg(2, 4, read, 0), b, c}},
		{at(2, 5), List{b, c}},
		{at(4, 6), List{reg(2, 4, read, 0), reg(6, 8, write, 1), c}},
		{at(4, 11), List{reg(2, 4, read, 0), reg(11, 12, read, 0)}},
		{at(5, 8), List{a, c}},
		{at(7, 10), List{a, reg(5, 7, write, 1), c}},
		{at(0, 100), nil},
		{at(2, 12), nil},
		{at(0, 2), l},
		{at(8, 10), l},
		{at(12, 13), l},
		{at(top-1, top), l},
	} {
		want(t, "Cut", cut(x.p), l, x.want, api.OK)
	}
	want(t, "Cut", cut(at(0, 1)), nil, nil, api.OK)
	// A region may have more pages than a range that is right.
	want(t, "Cut", cut(at(1<<20, 1<<20+1<<16)), List{reg(0, top, read, 0)}, List{reg(0, 1<<20, read, 0), reg(1<<20+1<<16, top, read, 0)}, api.OK)
}

// P10.2: a Cut that would leave 65 regions is refused, one that leaves 64 isn't.
func TestCutOfFull(t *testing.T) {
	full := append(many(63, 0), reg(200, 210, read, 0))
	want(t, "Cut", cut(at(204, 205)), full, nil, api.ErrBig)
	want(t, "Cut", cut(at(200, 201)), full, append(many(63, 0), reg(201, 210, read, 0)), api.OK)
	want(t, "Cut", cut(at(1, 2)), full, full, api.OK)
	fewer := append(many(62, 0), reg(200, 210, read, 0))
	want(t, "Cut", cut(at(204, 205)), fewer, append(many(62, 0), reg(200, 204, read, 0), reg(205, 210, read, 0)), api.OK)
}

// P10.2: Protect parts a region in three, joins two again, goes over several, keeps the Kind.
func TestProtect(t *testing.T) {
	l := List{reg(2, 6, read, 0), reg(6, 8, write, 0), reg(8, 9, read, 1), reg(10, 12, read, 0)}
	a, b, c, d := l[0], l[1], l[2], l[3]
	for _, x := range []struct {
		p    api.Range
		m    api.Perm
		want List
	}{
		{at(3, 5), write, List{reg(2, 3, read, 0), reg(3, 5, write, 0), reg(5, 6, read, 0), b, c, d}},
		{at(3, 5), read, l},
		{at(2, 3), exec, List{reg(2, 3, exec, 0), reg(3, 6, read, 0), b, c, d}},
		{at(5, 6), write, List{reg(2, 5, read, 0), reg(5, 8, write, 0), c, d}},
		{at(6, 8), read, List{reg(2, 8, read, 0), c, d}},
		{at(7, 8), read, List{a, reg(6, 7, write, 0), reg(7, 8, read, 0), c, d}},
		{at(2, 8), exec, List{reg(2, 8, exec, 0), c, d}},
		{at(5, 9), exec, List{reg(2, 5, read, 0), reg(5, 8, exec, 0), reg(8, 9, exec, 1), d}},
		{at(8, 9), write, List{a, b, reg(8, 9, write, 1), d}},
		{at(10, 12), api.Perm{}, List{a, b, c, reg(10, 12, api.Perm{}, 0)}},
	} {
		want(t, "Protect", protect(x.p, x.m), l, x.want, api.OK)
	}
	three := List{reg(2, 3, read, 0), reg(3, 5, write, 0), reg(5, 6, read, 0)}
	want(t, "Protect", protect(at(3, 5), read), three, List{reg(2, 6, read, 0)}, api.OK)
	for _, p := range []api.Range{at(9, 10), at(8, 10), at(9, 11), at(8, 11), at(1, 3), at(11, 13), at(0, 1), at(20, 30), at(0, 1<<16)} {
		want(t, "Protect", protect(p, read), l, nil, api.ErrNone)
	}
	want(t, "Protect", protect(at(0, 1), read), nil, nil, api.ErrNone)
}

// P10.2: a Protect that would make 65 regions is refused, one that makes 64 isn't; a page that is no region's counts first.
func TestProtectFull(t *testing.T) {
	full := append(many(63, 0), reg(200, 210, read, 0))
	want(t, "Protect", protect(at(204, 205), write), full, nil, api.ErrBig)
	want(t, "Protect", protect(at(200, 205), write), full, nil, api.ErrBig)
	want(t, "Protect", protect(at(204, 211), write), full, nil, api.ErrNone)
	want(t, "Protect", protect(at(204, 205), read), full, full, api.OK)
	want(t, "Protect", protect(at(200, 210), write), full, append(many(63, 0), reg(200, 210, write, 0)), api.OK)
	fewer := append(many(62, 0), reg(200, 210, read, 0))
	want(t, "Protect", protect(at(204, 205), write), fewer, nil, api.ErrBig)
	want(t, "Protect", protect(at(200, 205), write), fewer, append(many(62, 0), reg(200, 205, write, 0), reg(205, 210, read, 0)), api.OK)
}

// P10.3: an answer that its receiver changes afterwards changes neither what was handed in nor another answer.
func TestNewMemory(t *testing.T) {
	for _, f := range []call{add(reg(20, 21, read, 0)), add(reg(0, 1, read, 0)), cut(at(15, 16)), cut(at(3, 4)), protect(at(2, 8), read), protect(at(2, 4), exec)} {
		l := List{reg(2, 8, read, 0), reg(10, 12, write, 0)}
		before := slices.Clone(l)
		first, _ := f(l)
		second, _ := f(l)
		kept := slices.Clone(second)
		for i := range first {
			first[i] = reg(-9, -8, exec, 99)
		}
		first = append(first, reg(1, 2, exec, 98))
		if !slices.Equal(l, before) || !slices.Equal(second, kept) {
			t.Errorf("a change of %v shows in %v or %v", first, l, second)
		}
		for i := range l {
			l[i] = reg(-7, -6, exec, 97)
		}
		if !slices.Equal(second, kept) {
			t.Errorf("a change of what was handed in shows in %v", second)
		}
	}
}

// P10.1: the same list is told the same by nil and by empty ones, and Find and Count change nothing.
func TestLooking(t *testing.T) {
	l := many(3, 0)
	before := slices.Clone(l)
	Good(l)
	Find(l, 2)
	Count(l, at(0, 10))
	if !slices.Equal(l, before) {
		t.Errorf("a look has changed %v", l)
	}
	for _, none := range []List{nil, {}} {
		want(t, "Add", add(reg(0, 1, read, 0)), none, List{reg(0, 1, read, 0)}, api.OK)
		want(t, "Cut", cut(at(0, 1)), none, nil, api.OK)
	}
}

// worldPages is how many pages the plain model has.
const worldPages = 150

// use is what the plain model has of a page.
type use struct {
	there bool
	perm  api.Perm
	kind  int
}

type world [worldPages]use

// list: the good list that says this, however long.
func (w *world) list() List {
	var l List
	for i, u := range w {
		if !u.there {
			continue
		}
		if i > 0 && w[i-1] == u {
			l[len(l)-1].Pages.To = i + 1
			continue
		}
		l = append(l, reg(i, i+1, u.perm, u.kind))
	}
	return l
}

// have: of how many pages is there a region?
func (w *world) have(p api.Range) int {
	n := 0
	for i := max(p.From, 0); i < min(p.To, worldPages); i++ {
		if w[i].there {
			n++
		}
	}
	return n
}

// set: each of the pages is as f says.
func (w world) set(p api.Range, f func(use) use) world {
	for i := p.From; i < p.To; i++ {
		w[i] = f(w[i])
	}
	return w
}

// P10.1, P10.2: behind any calls the list is page by page as a plain array has it.
func TestModel(t *testing.T) {
	perms := []api.Perm{read, write, exec, {}}
	refused := map[api.Errno]int{}
	for seed := range int64(60) {
		rnd := rand.New(rand.NewSource(seed))
		longest := 1 + rnd.Intn(12)
		var w world
		var l List
		for range 400 {
			from := rnd.Intn(worldPages)
			p := at(from, min(from+1+rnd.Intn(longest), worldPages))
			m, kind := perms[rnd.Intn(len(perms))], rnd.Intn(2)
			var f call
			next, err := w, api.OK
			switch rnd.Intn(5) {
			case 0, 1, 2:
				f = add(Region{Pages: p, Perm: m, Kind: kind})
				next = w.set(p, func(use) use { return use{true, m, kind} })
				if w.have(p) > 0 {
					err = api.ErrThere
				}
			case 3:
				f = cut(p)
				next = w.set(p, func(use) use { return use{} })
			default:
				f = protect(p, m)
				next = w.set(p, func(u use) use { u.perm = m; return u })
				if w.have(p) < p.To-p.From {
					err = api.ErrNone
				}
			}
			if err == api.OK && len(next.list()) > 64 {
				err = api.ErrBig
			}
			refused[err]++
			if err != api.OK {
				want(t, "a call", f, l, nil, err)
				continue
			}
			want(t, "a call", f, l, next.list(), api.OK)
			w, l = next, next.list()
			lookAt(t, &w, l, rnd)
		}
	}
	for _, e := range []api.Errno{api.OK, api.ErrThere, api.ErrNone, api.ErrBig} {
		if refused[e] < 50 {
			t.Errorf("error %d was had %d times only", e, refused[e])
		}
	}
}

// lookAt: Find and Count say what the model says.
func lookAt(t *testing.T, w *world, l List, rnd *rand.Rand) {
	t.Helper()
	page := rnd.Intn(worldPages)
	r, ok := Find(l, page)
	if ok != w[page].there || ok && (use{true, r.Perm, r.Kind}) != w[page] {
		t.Fatalf("Find(%v, %d) = %v, %v", l, page, r, ok)
	}
	p := at(rnd.Intn(worldPages), rnd.Intn(worldPages))
	if n := Count(l, p); n != w.have(p) {
		t.Fatalf("Count(%v, %v) = %d; want %d", l, p, n, w.have(p))
	}
}
