package tlb

import (
	"math"
	"math/rand"
	"slices"
	"testing"

	"demesne/api"
)

// line: a translation of a page by a tag to a frame.
func line(tag, page, frame int) Line {
	return Line{Valid: true, Tag: tag, Page: page, Frame: frame}
}

// global: likewise, for all tags.
func global(tag, page, frame int) Line {
	l := line(tag, page, frame)
	l.Global = true
	return l
}

func fill(t *testing.T, x *TLB, way int, l Line) {
	t.Helper()
	if e := x.Fill(way, l); e != api.OK {
		t.Fatalf("Fill(%d, %+v) = %d", way, l, e)
	}
}

func wantLines(t *testing.T, x *TLB, want ...Line) {
	t.Helper()
	if got := x.Lines(); !slices.Equal(got, want) {
		t.Errorf("Lines() = %+v; want %+v", got, want)
	}
}

func wantFound(t *testing.T, x *TLB, tag, page int, want Line) {
	t.Helper()
	if got, ok := x.Find(tag, page); !ok || got != want {
		t.Errorf("Find(%d, %d) = %+v, %v; want %+v", tag, page, got, ok, want)
	}
}

func wantNone(t *testing.T, x *TLB, tag, page int) {
	t.Helper()
	if got, ok := x.Find(tag, page); ok || got != (Line{}) {
		t.Errorf("Find(%d, %d) = %+v, %v; want none", tag, page, got, ok)
	}
}

// odd: numbers of all kinds, of which most are no tag, page, set or way.
var odd = []int{math.MinInt, math.MinInt + 1, -4096, -16, -9, -8, -7, -2, -1, 0, 1, 2, 3, 7, 8, 9, 15, 16, 4095, 4096, 1 << 20, 1 << 35, math.MaxInt - 1, math.MaxInt}

// mixed: lines of several tags and pages, some of them Global, in both ways.
func mixed(t *testing.T) (*TLB, []Line) {
	t.Helper()
	x := &TLB{}
	all := []Line{line(1, 8, 10), global(1, 16, 11), line(2, 9, 12), line(1, 9, 13), global(2, 2, 14), line(1, 15, 15), line(3, 7, 16)}
	ways := []int{0, 1, 0, 1, 1, 0, 1}
	for i, l := range all {
		fill(t, x, ways[i], l)
	}
	wantLines(t, x, all...)
	return x, all
}

// without: the lines of which gone doesn't hold.
func without(all []Line, gone func(Line) bool) []Line {
	return slices.DeleteFunc(slices.Clone(all), gone)
}

func TestConstants(t *testing.T) {
	if Sets != 8 || Ways != 2 || Tags != 4096 {
		t.Error("how many places and tags there are")
	}
}

// P5.1: the chapter's example.
func TestExample(t *testing.T) {
	var x TLB
	fill(t, &x, 0, line(1, 9, 5))
	wantFound(t, &x, 1, 9, line(1, 9, 5))
	wantNone(t, &x, 2, 9)
	fill(t, &x, 1, line(1, 9, 5))
	wantLines(t, &x, line(1, 9, 5))
	x.Page(1, 9)
	wantNone(t, &x, 1, 9)
	wantLines(t, &x)
}

// P5.1: the zero TLB has no lines, whatever is asked for or dropped; a place without a line fits tag 0 and page 0 no more than others.
func TestZero(t *testing.T) {
	var x TLB
	for _, tag := range odd {
		for _, page := range odd {
			wantNone(t, &x, tag, page)
			x.Page(tag, page)
		}
		x.Tag(tag)
	}
	x.All(true)
	x.All(false)
	wantLines(t, &x)
	if x != (TLB{}) {
		t.Error("a TLB without lines has changed")
	}
}

// P5.1: Find of any numbers: a line of a tag is that tag's alone, a Global one everybody's, that of no tag too.
func TestFindOdd(t *testing.T) {
	var x TLB
	fill(t, &x, 0, line(4095, 1<<35, 1))
	fill(t, &x, 1, line(0, 0, 2))
	fill(t, &x, 1, global(7, math.MaxInt, 3))
	fill(t, &x, 0, line(0, 7, 4))
	for _, tag := range odd {
		for _, page := range odd {
			switch {
			case page == math.MaxInt:
				wantFound(t, &x, tag, page, global(7, math.MaxInt, 3))
			case page == 1<<35 && tag == 4095:
				wantFound(t, &x, tag, page, line(4095, 1<<35, 1))
			case page == 0 && tag == 0:
				wantFound(t, &x, tag, page, line(0, 0, 2))
			case page == 7 && tag == 0:
				wantFound(t, &x, tag, page, line(0, 7, 4))
			default:
				wantNone(t, &x, tag, page)
			}
		}
	}
}

// P5.1: a line is told with all that it says.
func TestWholeLine(t *testing.T) {
	for i := range 32 {
		l := Line{Valid: true, Tag: 5, Page: 1<<35 - 1, Frame: 1<<20 - 1, Perm: api.Perm{Write: i&1 != 0, User: i&2 != 0, Exec: i&4 != 0}, Global: i&8 != 0, Dirty: i&16 != 0}
		var x TLB
		fill(t, &x, i%2, l)
		wantFound(t, &x, 5, 1<<35-1, l)
		wantLines(t, &x, l)
	}
}

// P5.1: each error of Fill, alone and beside others; nothing has changed behind it.
func TestFillErrors(t *testing.T) {
	x, _ := mixed(t)
	before := *x
	refuse := func(way int, l Line) {
		t.Helper()
		if e := x.Fill(way, l); e != api.ErrArg {
			t.Errorf("Fill(%d, %+v) = %d; want ErrArg", way, l, e)
		}
		if *x != before {
			t.Fatalf("Fill(%d, %+v) has changed lines", way, l)
		}
	}
	for _, n := range odd {
		if n != 0 && n != 1 {
			refuse(n, line(1, 8, 0))
			refuse(n, Line{})
		}
		if n < 0 || n > 4095 {
			refuse(0, line(n, 8, 0))
			refuse(1, global(n, 8, 0))
		}
		if n < 0 {
			refuse(1, line(1, n, 0))
			refuse(0, global(1, n, 0))
			refuse(0, line(1, 8, n))
			refuse(1, global(1, 8, n))
		}
	}
	for _, l := range []Line{line(1, 8, 0), global(1, 8, 0), line(0, 0, 0)} {
		l.Valid = false
		refuse(0, l)
		refuse(1, l)
	}
}

// P5.1: the least and the greatest numbers that a line may have.
func TestFillEnds(t *testing.T) {
	for way := range 2 {
		for _, l := range []Line{line(0, 0, 0), line(4095, 0, 0), line(0, math.MaxInt, 0), line(0, 0, math.MaxInt), global(4095, math.MaxInt, math.MaxInt)} {
			var x TLB
			fill(t, &x, way, l)
			wantFound(t, &x, l.Tag, l.Page, l)
		}
	}
}

// P5.1: a line stands in the set of its page by 8, in the way that was asked for, and nowhere else.
func TestPlaces(t *testing.T) {
	for page := range 64 {
		for way := range 2 {
			var x TLB
			fill(t, &x, way, line(1, page, 3))
			for set := range 8 {
				for w := range 2 {
					y := x
					if e := y.Evict(set, w); e != api.OK {
						t.Fatalf("Evict(%d, %d) = %d", set, w, e)
					}
					if set == page%8 && w == way {
						wantLines(t, &y)
					} else {
						wantLines(t, &y, line(1, page, 3))
					}
				}
			}
		}
	}
}

// P5.1: what stood in the place is gone, what stands in the other one stays.
func TestFillTakesThePlace(t *testing.T) {
	var x TLB
	fill(t, &x, 0, line(1, 3, 1))
	fill(t, &x, 1, line(1, 11, 2))
	fill(t, &x, 0, line(1, 19, 3))
	wantLines(t, &x, line(1, 19, 3), line(1, 11, 2))
	fill(t, &x, 1, global(9, 27, 4))
	wantLines(t, &x, line(1, 19, 3), global(9, 27, 4))
	fill(t, &x, 1, line(2, 19, 5))
	wantLines(t, &x, line(1, 19, 3), line(2, 19, 5))
	fill(t, &x, 0, line(2, 35, 6))
	wantLines(t, &x, line(2, 35, 6), line(2, 19, 5))
}

// P5.2: a line that comes again, in the same way or in the other one, is there once, as it came last.
func TestFillAgain(t *testing.T) {
	for first := range 2 {
		for second := range 2 {
			var x TLB
			fill(t, &x, first, line(4, 10, 1))
			fill(t, &x, second, line(4, 10, 2))
			wantLines(t, &x, line(4, 10, 2))
			wantFound(t, &x, 4, 10, line(4, 10, 2))
			fill(t, &x, 1-second, line(4, 18, 3))
			if len(x.Lines()) != 2 {
				t.Errorf("ways %d, %d: another page's line took its place", first, second)
			}
			fill(t, &x, first, global(4, 10, 4))
			fill(t, &x, second, global(5, 10, 5))
			wantFound(t, &x, 4, 10, global(5, 10, 5))
			x.Page(0, 10)
			wantNone(t, &x, 4, 10)
		}
	}
}

// P5.2: where a Global line comes, the lines of its page are gone for all tags; those of other pages in the set stay.
func TestGlobalComes(t *testing.T) {
	for way := range 2 {
		var x TLB
		fill(t, &x, 0, line(1, 12, 1))
		fill(t, &x, 1, line(2, 12, 2))
		fill(t, &x, way, global(3, 12, 3))
		wantLines(t, &x, global(3, 12, 3))
		for _, tag := range odd {
			wantFound(t, &x, tag, 12, global(3, 12, 3))
		}
		var y TLB
		fill(t, &y, 1-way, line(1, 20, 1))
		fill(t, &y, way, global(1, 12, 3))
		wantFound(t, &y, 1, 20, line(1, 20, 1))
	}
}

// P5.2: where a line of a tag comes, a Global one of its page is gone, whatever its tag; that of another page stays.
func TestTagComesToGlobal(t *testing.T) {
	for way := range 2 {
		for _, tag := range []int{1, 3} {
			var x TLB
			fill(t, &x, 1-way, global(3, 12, 1))
			fill(t, &x, way, line(tag, 12, 2))
			wantLines(t, &x, line(tag, 12, 2))
			wantNone(t, &x, 4, 12)
			var y TLB
			fill(t, &y, 1-way, global(3, 20, 1))
			fill(t, &y, way, line(tag, 12, 2))
			wantFound(t, &y, 4, 20, global(3, 20, 1))
		}
	}
}

// P5.1: lines of several tags for one page stand beside each other.
func TestTagsBeside(t *testing.T) {
	var x TLB
	fill(t, &x, 0, line(1, 9, 5))
	fill(t, &x, 1, line(2, 9, 6))
	wantFound(t, &x, 1, 9, line(1, 9, 5))
	wantFound(t, &x, 2, 9, line(2, 9, 6))
	x.Page(1, 9)
	wantLines(t, &x, line(2, 9, 6))
}

// P5.1: Evict of each place, and of those that there aren't.
func TestEvict(t *testing.T) {
	for _, set := range odd {
		for _, way := range odd {
			x, all := mixed(t)
			want, left := api.ErrArg, all
			if set >= 0 && set < 8 && way >= 0 && way < 2 {
				want = api.OK
				place := x.places[set][way]
				left = without(all, func(l Line) bool { return l == place })
			}
			if e := x.Evict(set, way); e != want {
				t.Errorf("Evict(%d, %d) = %d; want %d", set, way, e, want)
			}
			wantLines(t, x, left...)
		}
	}
}

// P5.3: behind Page no line that fits is found, a Global one neither; all others stay.
func TestPage(t *testing.T) {
	for _, tag := range odd {
		for _, page := range odd {
			x, all := mixed(t)
			x.Page(tag, page)
			wantNone(t, x, tag, page)
			wantLines(t, x, without(all, func(l Line) bool { return l.Page == page && (l.Tag == tag || l.Global) })...)
		}
	}
}

// P5.3: behind Tag no line of it is found that isn't Global; Global ones that came with this tag stay.
func TestTag(t *testing.T) {
	for _, tag := range odd {
		x, all := mixed(t)
		x.Tag(tag)
		wantLines(t, x, without(all, func(l Line) bool { return l.Tag == tag && !l.Global })...)
		for _, l := range all {
			if l.Tag == tag && !l.Global {
				wantNone(t, x, tag, l.Page)
			}
		}
		wantFound(t, x, tag, 16, global(1, 16, 11))
		wantFound(t, x, tag, 2, global(2, 2, 14))
	}
}

// P5.3: behind All no line is found, but, if they stay, the Global ones.
func TestAll(t *testing.T) {
	x, all := mixed(t)
	x.All(true)
	wantLines(t, x, global(1, 16, 11), global(2, 2, 14))
	x.All(false)
	wantLines(t, x)
	x, _ = mixed(t)
	x.All(false)
	for _, l := range all {
		wantNone(t, x, l.Tag, l.Page)
	}
	wantLines(t, x)
}

// P5.1: Lines goes by rising sets, in a set by rising ways, whatever the order in which they came.
func TestLinesOrder(t *testing.T) {
	rnd := rand.New(rand.NewSource(51))
	for range 50 {
		var x TLB
		for _, place := range rnd.Perm(16) {
			set, way := place/2, place%2
			fill(t, &x, way, line(way+1, set+8*rnd.Intn(9), place))
		}
		for i, l := range x.Lines() {
			if l.Frame != i {
				t.Fatalf("Lines()[%d] = %+v", i, l)
			}
		}
		if len(x.Lines()) != 16 {
			t.Fatalf("%d lines", len(x.Lines()))
		}
	}
}

// P5.4: what was handed out or in doesn't lead into a TLB; a copy and another TLB are on their own.
func TestNobodyElses(t *testing.T) {
	x, all := mixed(t)
	got := x.Lines()
	for i := range got {
		got[i] = line(9, 9, 9)
	}
	_ = append(got[:0], line(8, 8, 8))
	wantLines(t, x, all...)
	one, _ := x.Find(1, 8)
	one.Frame = 99
	wantFound(t, x, 1, 8, line(1, 8, 10))
	mine := line(6, 6, 6)
	fill(t, x, 0, mine)
	mine.Frame = 99
	wantFound(t, x, 6, 6, line(6, 6, 6))
	y := *x
	y.All(false)
	wantLines(t, &y)
	if len(x.Lines()) != len(all)+1 {
		t.Error("a copy's All shows")
	}
	z := *x
	x.All(false)
	if len(z.Lines()) != len(all)+1 {
		t.Error("All shows in a copy")
	}
	var other TLB
	fill(t, &other, 0, line(1, 1, 1))
	wantLines(t, x)
}

// told is a model that keeps lines by place in a list, each beside where it stands.
type told struct {
	set, way int
	l        Line
}

type model []told

func (m *model) drop(gone func(told) bool) {
	*m = slices.DeleteFunc(slices.Clone(*m), gone)
}

func (m *model) fill(way int, l Line) {
	m.drop(func(o told) bool {
		return o.l.Page == l.Page && (o.l.Tag == l.Tag || o.l.Global || l.Global) || o.set == l.Page%8 && o.way == way
	})
	*m = append(*m, told{l.Page % 8, way, l})
}

func (m *model) lines() []Line {
	slices.SortFunc(*m, func(a, b told) int { return 2*a.set + a.way - 2*b.set - b.way })
	var all []Line
	for _, o := range *m {
		all = append(all, o.l)
	}
	return all
}

// play: one call of any kind, on both.
func play(rnd *rand.Rand, x *TLB, m *model) {
	tag, page, way := rnd.Intn(4), rnd.Intn(24), rnd.Intn(2)
	switch n := rnd.Intn(40); {
	case n < 30:
		l := Line{Valid: true, Tag: tag, Page: page, Frame: rnd.Intn(100), Global: rnd.Intn(4) == 0, Dirty: rnd.Intn(2) == 0, Perm: api.Perm{Write: rnd.Intn(2) == 0}}
		x.Fill(way, l)
		m.fill(way, l)
	case n < 33:
		x.Evict(page%8, way)
		m.drop(func(o told) bool { return o.set == page%8 && o.way == way })
	case n < 36:
		x.Page(tag, page)
		m.drop(func(o told) bool { return o.l.Page == page && (o.l.Tag == tag || o.l.Global) })
	case n < 38:
		x.Tag(tag)
		m.drop(func(o told) bool { return o.l.Tag == tag && !o.l.Global })
	case n < 39:
		x.All(true)
		m.drop(func(o told) bool { return !o.l.Global })
	case rnd.Intn(4) == 0:
		x.All(false)
		*m = nil
	default:
		x.Fill(way, Line{Tag: tag, Page: page})
	}
}

// P5.1, P5.2: behind any calls, beside a model; and at most one line fits a tag and a page.
func TestModel(t *testing.T) {
	rnd := rand.New(rand.NewSource(52))
	for range 40 {
		var x TLB
		var m model
		for range 300 {
			play(rnd, &x, &m)
			all := m.lines()
			if got := x.Lines(); !slices.Equal(got, all) {
				t.Fatalf("Lines() = %+v; want %+v", got, all)
			}
			for tag := range 5 {
				for page := range 24 {
					wantOne(t, &x, all, tag, page)
				}
			}
		}
	}
}

// wantOne: Find is the one of these lines that fits, if one does.
func wantOne(t *testing.T, x *TLB, all []Line, tag, page int) {
	t.Helper()
	fitting := without(all, func(l Line) bool { return l.Page != page || l.Tag != tag && !l.Global })
	got, ok := x.Find(tag, page)
	switch len(fitting) {
	case 0:
		if ok || got != (Line{}) {
			t.Fatalf("Find(%d, %d) = %+v, %v; want none", tag, page, got, ok)
		}
	case 1:
		if !ok || got != fitting[0] {
			t.Fatalf("Find(%d, %d) = %+v, %v; want %+v", tag, page, got, ok, fitting[0])
		}
	default:
		t.Fatalf("tag %d, page %d: several lines fit: %+v", tag, page, fitting)
	}
}
