package pcid

import (
	"maps"
	"math"
	"math/rand"
	"testing"

	"demesne/api"
)

// odd: numbers of spaces, and of tags, of all kinds.
var odd = []int{math.MinInt, math.MinInt + 1, -1 << 32, -4096, -2, -1, 0, 1, 2, 3, 4, 7, 4094, 4095, 4096, 4097, 1 << 32, math.MaxInt - 1, math.MaxInt}

func made(t *testing.T, most int) *Tags {
	t.Helper()
	x, e := New(most)
	if x == nil || e != api.OK {
		t.Fatalf("New(%d) = %v, %d", most, x, e)
	}
	return x
}

func wantGet(t *testing.T, x *Tags, space, tag int, over bool) {
	t.Helper()
	if got, began := x.Get(space); got != tag || began != over {
		t.Errorf("Get(%d) = %d, %v; want %d, %v", space, got, began, tag, over)
	}
}

// wantPair: a space has a tag, and a tag its space.
func wantPair(t *testing.T, x *Tags, space, tag int) {
	t.Helper()
	if got, ok := x.Tag(space); got != tag || !ok {
		t.Errorf("Tag(%d) = %d, %v; want %d", space, got, ok, tag)
	}
	if got, ok := x.Owner(tag); got != space || !ok {
		t.Errorf("Owner(%d) = %d, %v; want %d", tag, got, ok, space)
	}
}

func wantNoTag(t *testing.T, x *Tags, space int) {
	t.Helper()
	if got, ok := x.Tag(space); got != 0 || ok {
		t.Errorf("Tag(%d) = %d, %v; want none", space, got, ok)
	}
}

func wantNoOwner(t *testing.T, x *Tags, tag int) {
	t.Helper()
	if got, ok := x.Owner(tag); got != 0 || ok {
		t.Errorf("Owner(%d) = %d, %v; want none", tag, got, ok)
	}
}

func wantGeneration(t *testing.T, x *Tags, want int) {
	t.Helper()
	if got := x.Generation(); got != want {
		t.Errorf("Generation() = %d; want %d", got, want)
	}
}

// P11.1: the chapter's example.
func TestExample(t *testing.T) {
	x := made(t, 2)
	wantGet(t, x, 7, 1, false)
	wantGet(t, x, 8, 2, false)
	wantGet(t, x, 7, 1, false)
	wantGet(t, x, 9, 1, true)
	wantGet(t, x, 7, 2, false)
	x.Drop(9)
	wantGet(t, x, 5, 1, true)
	wantGeneration(t, x, 2)
}

// P11.1: New of 1 to 4095, and of no other number; at first nobody has a tag.
func TestNew(t *testing.T) {
	for _, most := range odd {
		x, e := New(most)
		if most < 1 || most > 4095 {
			if x != nil || e != api.ErrArg {
				t.Errorf("New(%d) = %v, %d; want ErrArg", most, x, e)
			}
			continue
		}
		if x == nil || e != api.OK {
			t.Fatalf("New(%d) = %v, %d", most, x, e)
		}
		wantGeneration(t, x, 0)
		for _, i := range odd {
			wantNoTag(t, x, i)
			wantNoOwner(t, x, i)
		}
		wantGet(t, x, 3, 1, false)
	}
}

// P11.1, P11.2: as many spaces as tags, one more, and many rounds of them.
func TestRounds(t *testing.T) {
	for _, most := range []int{1, 2, 3, 64, 4095} {
		x := made(t, most)
		for round := range 4 {
			for i := range most {
				space := round*most + i
				wantGet(t, x, space, i+1, round > 0 && i == 0)
				wantPair(t, x, space, i+1)
				wantGeneration(t, x, round)
			}
			for i := range most {
				wantPair(t, x, round*most+i, i+1)
				wantGet(t, x, round*most+i, i+1, false)
			}
			wantGeneration(t, x, round)
		}
		wantNoTag(t, x, most-1)
	}
}

// P11.1: behind a new generation nobody has a tag but who asked since; who had one asks for the next.
func TestForgotten(t *testing.T) {
	x := made(t, 3)
	for space := range 3 {
		wantGet(t, x, space+10, space+1, false)
	}
	wantGet(t, x, 20, 1, true)
	for space := range 3 {
		wantNoTag(t, x, space+10)
	}
	wantPair(t, x, 20, 1)
	wantNoOwner(t, x, 2)
	wantNoOwner(t, x, 3)
	wantGet(t, x, 12, 2, false)
	wantGet(t, x, 20, 1, false)
	wantGet(t, x, 10, 3, false)
	wantGet(t, x, 12, 2, false)
	wantGeneration(t, x, 1)
	wantGet(t, x, 11, 1, true)
	wantNoTag(t, x, 20)
	wantGeneration(t, x, 2)
}

// P11.1, P11.2: who drops its tag has none, nobody has that, and it isn't given again in this generation.
func TestDrop(t *testing.T) {
	x := made(t, 3)
	x.Drop(4) // of nothing
	wantGet(t, x, 4, 1, false)
	wantGet(t, x, 5, 2, false)
	x.Drop(4)
	wantNoTag(t, x, 4)
	wantNoOwner(t, x, 1)
	wantPair(t, x, 5, 2)
	x.Drop(4)
	x.Drop(1) // a tag's number, not a space's
	wantPair(t, x, 5, 2)
	wantGet(t, x, 4, 3, false)
	x.Drop(4) // the last tag
	wantNoOwner(t, x, 3)
	wantGeneration(t, x, 0)
	wantPair(t, x, 5, 2)
	wantGet(t, x, 5, 2, false)
	wantGet(t, x, 4, 1, true)
	wantNoTag(t, x, 5)
	wantGeneration(t, x, 1)
}

// P11.1: with one tag it goes from one to the other.
func TestOneTag(t *testing.T) {
	x := made(t, 1)
	wantGet(t, x, 0, 1, false)
	wantGet(t, x, 1, 1, true)
	wantGet(t, x, 1, 1, false)
	wantGet(t, x, 0, 1, true)
	x.Drop(0)
	wantGet(t, x, 0, 1, true)
	wantGeneration(t, x, 3)
}

// P11.1: Owner of numbers that are no tag, and of the last one.
func TestOwner(t *testing.T) {
	for _, most := range []int{1, 5, 4095} {
		x := made(t, most)
		for space := range most {
			x.Get(space + 100)
		}
		for _, tag := range []int{math.MinInt, -4096, -1, 0, most + 1, 4096, math.MaxInt} {
			wantNoOwner(t, x, tag)
		}
		wantPair(t, x, 100, 1)
		wantPair(t, x, 99+most, most)
		x.Drop(99 + most)
		wantNoOwner(t, x, most)
	}
}

// P11.1, P1: of any number of a space, 0 and the greatest and the least integers too.
func TestAnySpace(t *testing.T) {
	x := made(t, len(odd))
	for i, space := range odd {
		wantGet(t, x, space, i+1, false)
	}
	for i, space := range odd {
		wantPair(t, x, space, i+1)
		x.Drop(space)
		wantNoTag(t, x, space)
		wantNoOwner(t, x, i+1)
	}
	wantGet(t, x, math.MinInt, 1, true)
}

// P2 (K3): what is asked changes nothing; two Tags are nobody else's.
func TestApart(t *testing.T) {
	x, y := made(t, 3), made(t, 3)
	wantGet(t, x, 1, 1, false)
	wantNoTag(t, y, 1)
	wantGet(t, y, 2, 1, false)
	wantGet(t, y, 1, 2, false)
	for _, i := range odd {
		x.Tag(i)
		x.Owner(i)
		x.Generation()
	}
	wantGet(t, x, 9, 2, false)
	y.Drop(1)
	wantPair(t, x, 1, 1)
	wantPair(t, x, 9, 2)
	wantGeneration(t, x, 0)
}

// model is what was given in this generation, also what was dropped again.
type model struct {
	most, generation int
	given            []int       // to whom, by tags from 1 on
	has              map[int]int // who has which
}

func (m *model) get(space int) (int, bool) {
	if tag, ok := m.has[space]; ok {
		return tag, false
	}
	over := len(m.given) == m.most
	if over {
		*m = model{most: m.most, generation: m.generation + 1, has: map[int]int{}}
	}
	m.given = append(m.given, space)
	m.has[space] = len(m.given)
	return len(m.given), over
}

// P11.1, P11.2, P2 (rule 8 of the language): any calls, beside the model; nothing is kept of who has no tag.
func TestModel(t *testing.T) {
	rnd := rand.New(rand.NewSource(111))
	for range 300 {
		most := 1 + rnd.Intn(6)
		x, m := made(t, most), &model{most: most, has: map[int]int{}}
		for range 200 {
			space := rnd.Intn(10) - 2
			if rnd.Intn(3) > 0 {
				tag, over := m.get(space)
				wantGet(t, x, space, tag, over)
			} else {
				x.Drop(space)
				delete(m.has, space)
			}
			wantModel(t, x, m)
			if t.Failed() {
				t.FailNow()
			}
		}
	}
}

func wantModel(t *testing.T, x *Tags, m *model) {
	t.Helper()
	wantGeneration(t, x, m.generation)
	owners := map[int]int{}
	for space := -3; space < 10; space++ {
		if tag, ok := m.has[space]; ok {
			wantPair(t, x, space, tag)
			owners[tag] = space
		} else {
			wantNoTag(t, x, space)
		}
	}
	for tag := -1; tag <= m.most+2; tag++ {
		if _, ok := owners[tag]; !ok {
			wantNoOwner(t, x, tag)
		}
	}
	if !maps.Equal(x.tags, m.has) || len(x.owners) != len(m.has) {
		t.Errorf("kept are %v and %v; want %v", x.tags, x.owners, m.has)
	}
}
