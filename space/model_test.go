package space

import (
	"fmt"
	"maps"
	"math/rand"
	"slices"
	"testing"

	"demesne/api"
	"demesne/region"
	"demesne/tlb"
	"demesne/walk"
)

// cell is a page of a space in the model; source is, of a borrowed one, whose page it is.
type cell struct {
	perm   api.Perm
	kind   int
	frame  int // 0: it leads nowhere
	stamp  uint64
	source [2]int
}

// plain is a space in the model, page by page.
type plain struct {
	box   int
	cells map[int]cell
}

// model is a machine without tables and regions: it counts what they cost.
type model struct {
	t      *testing.T
	m      *Machine
	rnd    *rand.Rand
	spaces map[int]*plain
	stamps uint64
	told   map[string]int // how often each call had which answer
	wrong  bool           // was the last call refused?
}

// clusters: where the pages of the random calls lie, at the edges of tables.
var clusters = []int{0, 510, 1<<18 - 2, 1<<27 - 2, top - 4}

func (x *model) page() int {
	return clusters[x.rnd.Intn(len(clusters))] + x.rnd.Intn(6) - x.rnd.Intn(2)
}

// pages: a few, more often from one on that a space has.
func (x *model) pages(id int) api.Range {
	from := x.some(id)
	return pages(from, from+1+x.rnd.Intn(4)-x.rnd.Intn(2))
}

// id: of a space, more often one that is there.
func (x *model) id() int {
	if ids := x.m.Spaces(); len(ids) > 0 && x.rnd.Intn(10) > 0 {
		return ids[x.rnd.Intn(len(ids))]
	}
	return x.rnd.Intn(6) - 1
}

func (x *model) perm() api.Perm {
	return perms()[x.rnd.Intn(8)|x.rnd.Intn(8)|x.rnd.Intn(8)]
}

func (x *model) access() api.Access {
	return accesses()[x.rnd.Intn(8)&x.rnd.Intn(8)]
}

// lent: how often a page is lent, by looking at all others.
func (x *model) lent(id, page int) int {
	n := 0
	for _, s := range x.spaces {
		for _, c := range s.cells {
			if c.kind == Borrowed && c.source == [2]int{id, page} {
				n++
			}
		}
	}
	return n
}

func (x *model) busy(id int, p api.Range) bool {
	for page, c := range x.spaces[id].cells {
		if page >= p.From && page < p.To && (c.kind == Borrowed || x.lent(id, page) > 0) {
			return true
		}
	}
	return false
}

// regions: the fewest that say what the cells say.
func regions(cells map[int]cell) region.List {
	var l region.List
	for _, page := range slices.Sorted(maps.Keys(cells)) {
		c := cells[page]
		if n := len(l); n > 0 && l[n-1] == (region.Region{Pages: pages(l[n-1].Pages.From, page), Perm: c.perm, Kind: c.kind}) {
			l[n-1].Pages.To++
			continue
		}
		l = append(l, region.Region{Pages: pages(page, page+1), Perm: c.perm, Kind: c.kind})
	}
	return l
}

// cost: how many frames a space has: its root, its tables, those of its own.
func (s *plain) cost() int {
	frames := 1
	tables := map[[2]int]int{}
	for page, c := range s.cells {
		if c.frame == 0 {
			continue
		}
		for shift := 9; shift <= 27; shift += 9 {
			tables[[2]int{shift, page >> shift}]++
		}
		if c.kind == Own {
			frames++
		}
	}
	return frames + len(tables)
}

func (x *model) used(box int) int {
	used := 0
	if box == 0 {
		used = 2
	}
	for _, s := range x.spaces {
		if s.box == box {
			used += s.cost()
		}
	}
	return used
}

func (x *model) room(box int) int {
	n, _ := x.m.Tree.Get(box)
	return n.Quota - n.Lent - x.used(box)
}

// with: would a space with this cell more cost more than its container may have? If not, it has it.
func (x *model) with(s *plain, page int, c cell) api.Errno {
	was, there := s.cells[page]
	s.cells[page] = c
	if x.room(s.box) >= 0 {
		return api.OK
	}
	delete(s.cells, page)
	if there {
		s.cells[page] = was
	}
	return api.ErrQuota
}

func rightRange(p api.Range) bool {
	return p.From >= 0 && p.From < p.To && p.To <= top && p.To-p.From <= api.MaxPages
}

// check: an answer is the model's.
func (x *model) check(what string, got, want api.Errno) {
	x.t.Helper()
	if got != want {
		x.t.Fatalf("%s: %d; want %d", what, got, want)
	}
	x.told[fmt.Sprint(what, " ", got)]++
	x.wrong = got != api.OK
}

func (x *model) open() {
	id, box := x.rnd.Intn(6)-1, x.rnd.Intn(5)
	want := api.OK
	_, live := x.m.Tree.Get(box)
	switch {
	case id < 0:
		want = api.ErrArg
	case x.spaces[id] != nil:
		want = api.ErrThere
	case !live:
		want = api.ErrNone
	case x.room(box) < 1:
		want = api.ErrQuota
	default:
		x.spaces[id] = &plain{box: box, cells: map[int]cell{}}
	}
	x.check("Open", x.m.Open(id, box), want)
}

// edit: the cells of a space behind a change of these pages, if there aren't too many regions.
func (x *model) edit(s *plain, cells map[int]cell, busy bool) api.Errno {
	if len(regions(cells)) > api.MaxRegions {
		return api.ErrBig
	}
	if busy {
		return api.ErrBusy
	}
	s.cells = cells
	return api.OK
}

func (x *model) mapPages() {
	id, perm := x.id(), x.perm()
	p := pages(x.page(), 0)
	p.To = p.From + x.rnd.Intn(6)
	s, want := x.spaces[id], api.OK
	switch {
	case s == nil:
		want = api.ErrNone
	case !rightRange(p):
		want = api.ErrArg
	default:
		cells := maps.Clone(s.cells)
		for page := p.From; page < p.To; page++ {
			if _, ok := cells[page]; ok {
				want = api.ErrThere
			}
			cells[page] = cell{perm: perm}
		}
		if want == api.OK {
			want = x.edit(s, cells, false)
		}
	}
	x.check("Map", x.m.Map(id, p, perm), want)
}

func (x *model) unmap() {
	id := x.id()
	p := x.pages(id)
	s, want := x.spaces[id], api.OK
	lines := x.m.TLB.Lines()
	switch {
	case s == nil:
		want = api.ErrNone
	case !rightRange(p):
		want = api.ErrArg
	default:
		cells := maps.Clone(s.cells)
		left := x.less(lines, id, p)
		for page := p.From; page < p.To; page++ {
			delete(cells, page)
		}
		if want = x.edit(s, cells, x.busy(id, p)); want == api.OK {
			lines = left
		}
	}
	x.check("Unmap", x.m.Unmap(id, p), want)
	x.wantLines("Unmap", lines)
}

func (x *model) protect() {
	id, perm := x.id(), x.perm()
	p := x.pages(id)
	s, want := x.spaces[id], api.OK
	lines := x.m.TLB.Lines()
	switch {
	case s == nil:
		want = api.ErrNone
	case !rightRange(p):
		want = api.ErrArg
	default:
		cells := maps.Clone(s.cells)
		for page := p.From; page < p.To; page++ {
			c, ok := cells[page]
			if !ok {
				want = api.ErrNone
			}
			c.perm = perm
			cells[page] = c
		}
		if want == api.OK {
			if want = x.edit(s, cells, x.busy(id, p)); want == api.OK {
				lines = x.less(lines, id, p)
			}
		}
	}
	x.check("Protect", x.m.Protect(id, p, perm), want)
	x.wantLines("Protect", lines)
}

// less: the lines without those that fit the space's tag and a page of these that leads somewhere.
func (x *model) less(lines []tlb.Line, id int, p api.Range) []tlb.Line {
	tag, has := x.m.Tags.Tag(id)
	return slices.DeleteFunc(slices.Clone(lines), func(l tlb.Line) bool {
		c, ok := x.spaces[id].cells[l.Page]
		return has && ok && c.frame != 0 && l.Page >= p.From && l.Page < p.To && (l.Tag == tag || l.Global)
	})
}

func (x *model) wantLines(what string, want []tlb.Line) {
	x.t.Helper()
	if got := x.m.TLB.Lines(); !slices.Equal(got, want) {
		x.t.Fatalf("%s: lines %v; want %v", what, got, want)
	}
}

func (x *model) touch() {
	id, a := x.id(), x.access()
	page := x.some(id)
	s, want, code, frame := x.spaces[id], api.OK, 0, 0
	if s == nil {
		want = api.ErrNone
	} else if c, ok := s.cells[page]; !ok || !walk.May(c.perm, a) {
		want, code = api.ErrFault, codeOf(a)
		if ok && c.frame != 0 {
			code++
		}
	} else if frame = c.frame; frame == 0 {
		c.frame = -1
		want = x.with(s, page, c)
	}
	got, gotCode, e := x.m.Touch(id, page, a)
	x.check("Touch", e, want)
	if gotCode != code || e == api.OK && frame != 0 && got != frame || e != api.OK && got != 0 {
		x.t.Fatalf("Touch(%d, %d, %+v) = %d, %d; want %d, %d", id, page, a, got, gotCode, frame, code)
	}
	if e == api.OK && frame == 0 {
		x.stamp(s, page, got)
	}
}

// stamp: a frame that came is of zeros, nobody else's, and marked from now on.
func (x *model) stamp(s *plain, page, frame int) {
	for id, other := range x.spaces {
		for p, c := range other.cells {
			if c.frame == frame {
				x.t.Fatalf("frame %d is page %d's of %d, too", frame, p, id)
			}
		}
	}
	if !x.m.RAM.Clear(frame) || x.m.Free.Order(frame) != 0 {
		x.t.Fatalf("frame %d isn't of zeros, or isn't given", frame)
	}
	x.stamps++
	c := s.cells[page]
	c.frame, c.stamp = frame, x.stamps
	s.cells[page] = c
	for place := 0; place < 4096; place += 8 {
		x.m.RAM.Store(uint64(frame)*4096+uint64(place), 8, c.stamp<<9+uint64(place))
	}
}

// owned: a page of kind Own that leads somewhere.
func (x *model) owned(id, page int) (cell, bool) {
	s := x.spaces[id]
	if s == nil {
		return cell{}, false
	}
	c := s.cells[page]
	return c, c.frame != 0 && c.kind == Own
}

// some: a page that a space has, more often than one that it hasn't.
func (x *model) some(id int) int {
	if s := x.spaces[id]; s != nil && len(s.cells) > 0 && x.rnd.Intn(4) > 0 {
		all := slices.Sorted(maps.Keys(s.cells))
		return all[x.rnd.Intn(len(all))]
	}
	return x.page()
}

// led: likewise, but a page that leads somewhere.
func (x *model) led(id int) int {
	if led := x.m.Pages(id); len(led) > 0 && x.rnd.Intn(4) > 0 {
		return led[x.rnd.Intn(len(led))]
	}
	return x.some(id)
}

func (x *model) lend() {
	id, to, at, perm := x.id(), x.id(), x.page(), x.perm()
	page := x.led(id)
	c, ok := x.owned(id, page)
	taker, want := x.spaces[to], api.OK
	switch {
	case !ok || taker == nil:
		want = api.ErrNone
	case perm.Write && !c.perm.Write || perm.Exec && !c.perm.Exec:
		want = api.ErrPerm
	case at < 0 || at >= top:
		want = api.ErrArg
	default:
		if _, there := taker.cells[at]; there {
			want = api.ErrThere
			break
		}
		more := cell{perm: perm, kind: Borrowed, frame: c.frame, stamp: c.stamp, source: [2]int{id, page}}
		cells := maps.Clone(taker.cells)
		cells[at] = more
		if len(regions(cells)) > api.MaxRegions {
			want = api.ErrBig
			break
		}
		want = x.with(taker, at, more)
	}
	lines := x.m.TLB.Lines()
	x.check("Lend", x.m.Lend(id, page, to, at, perm), want)
	x.wantLines("Lend", lines)
}

func (x *model) lendable() {
	id, write := x.id(), x.rnd.Intn(2) == 0
	page := x.led(id)
	want := api.OK
	if c, ok := x.owned(id, page); !ok {
		want = api.ErrNone
	} else if write && !c.perm.Write {
		want = api.ErrPerm
	}
	x.check("Lendable", x.m.Lendable(id, page, write), want)
}

func (x *model) back() {
	to := x.id()
	at := x.led(to)
	id, page := x.id(), x.page()
	var c cell
	if s := x.spaces[to]; s != nil {
		c = s.cells[at]
	}
	if x.rnd.Intn(4) > 0 {
		id, page = c.source[0], c.source[1]
	}
	want := api.ErrNone
	lines := x.m.TLB.Lines()
	if c.kind == Borrowed && c.source == [2]int{id, page} {
		want = api.OK
		lines = x.less(lines, to, pages(at, at+1))
		delete(x.spaces[to].cells, at)
	}
	x.check("Back", x.m.Back(id, page, to, at), want)
	x.wantLines("Back", lines)
}

func (x *model) close(id int) {
	s, want := x.spaces[id], api.OK
	lines := x.m.TLB.Lines()
	if s == nil {
		want = api.ErrNone
	} else if x.busy(id, pages(0, top)) {
		want = api.ErrBusy
	} else {
		lines = x.less(lines, id, pages(0, top))
		if tag, ok := x.m.Tags.Tag(id); ok {
			lines = slices.DeleteFunc(lines, func(l tlb.Line) bool { return l.Tag == tag && !l.Global })
		}
		delete(x.spaces, id)
	}
	x.check("Close", x.m.Close(id), want)
	x.wantLines("Close", lines)
	if _, ok := x.m.Tags.Tag(id); ok && want == api.OK {
		x.t.Fatalf("Close(%d): it has a tag still", id)
	}
}

// tag: which lines are left behind a new generation.
func (x *model) tag() {
	id := x.id()
	lines, old, now := x.m.TLB.Lines(), x.m.Tags.Generation(), 0
	tag := x.m.Tag(id)
	if now = x.m.Tags.Generation(); now != old {
		lines = slices.DeleteFunc(lines, func(l tlb.Line) bool { return !l.Global })
	}
	x.wantLines("Tag", lines)
	if owner, ok := x.m.Tags.Owner(tag); !ok || owner != id {
		x.t.Fatalf("Tag(%d) = %d, which is %d's", id, tag, owner)
	}
}

// keep: a page is walked for; a walk finds what the model has, and is kept as a line.
func (x *model) keep() {
	id := x.id()
	s := x.spaces[id]
	if s == nil {
		return
	}
	page, a := x.led(id), x.access()
	root, _ := x.m.Root(id)
	tag := x.m.Tag(id)
	found, _, e := walk.Walk(x.m.RAM, root, uint64(page)*4096, a)
	c := s.cells[page]
	if good := c.frame != 0 && walk.May(c.perm, a); page >= 0 && page < top && good != (e == api.OK) {
		x.t.Fatalf("Walk to %d: %d; in the model %+v", page, e, c)
	}
	if e != api.OK {
		return
	}
	if found.Frame != c.frame || found.Perm != c.perm || found.Global {
		x.t.Fatalf("Walk to %d: %+v; in the model %+v", page, found, c)
	}
	l := tlb.Line{Valid: true, Tag: tag, Page: page, Frame: found.Frame, Perm: found.Perm, Dirty: found.Dirty}
	x.check("Fill", x.m.TLB.Fill(x.rnd.Intn(2), l), api.OK)
}

// wide: a Global line by hand.
func (x *model) wide() {
	x.m.TLB.Fill(x.rnd.Intn(2), tlb.Line{Valid: true, Tag: x.rnd.Intn(4), Page: max(x.page(), 0), Frame: 3, Global: true})
}

// one: a call, more or less often.
func (x *model) one() {
	switch n := x.rnd.Intn(200); {
	case n < 15:
		x.open()
	case n < 40:
		x.mapPages()
	case n < 50:
		x.unmap()
	case n < 62:
		x.protect()
	case n < 105:
		x.touch()
	case n < 130:
		x.lend()
	case n < 138:
		x.lendable()
	case n < 151:
		x.back()
	case n < 154:
		x.close(x.id())
	case n < 160:
		x.tag()
	case n < 195:
		x.keep()
	default:
		x.wide()
	}
}

// wantModel: the machine is as the model.
func (x *model) wantModel() {
	x.t.Helper()
	if got, want := x.m.Spaces(), slices.Sorted(maps.Keys(x.spaces)); !slices.Equal(got, want) {
		x.t.Fatalf("Spaces() = %v; want %v", got, want)
	}
	if stale := x.m.Stale(); len(stale) > 0 {
		x.t.Fatalf("Stale() = %v", stale)
	}
	for _, box := range x.m.Tree.Live() {
		wantUsed(x.t, x.m, box, x.used(box))
	}
	had := x.kernelTables(map[int]string{})
	for _, id := range x.m.Spaces() {
		x.wantSpace(id, had)
	}
	if given := x.m.Free.Given(); !slices.Equal(given, slices.Sorted(maps.Keys(had))) {
		x.t.Fatalf("given: %v; had: %v", given, had)
	}
	if x.t.Failed() {
		x.t.FailNow()
	}
}

// have: a frame is for this, and for nothing else.
func (x *model) have(had map[int]string, frame int, what string) {
	if had[frame] != "" {
		x.t.Fatalf("frame %d is %s and %s", frame, had[frame], what)
	}
	had[frame] = what
}

func (x *model) entry(table, place int) (frame int, there bool) {
	e, _ := x.m.RAM.Load(uint64(table)*4096+uint64(place)*8, 8)
	return int(e >> 12 & (1<<20 - 1)), e&1 != 0
}

func (x *model) kernelTables(had map[int]string) map[int]string {
	x.have(had, x.m.kernel, "the kernel's")
	level2, _ := x.entry(x.m.kernel, 0)
	x.have(had, level2, "the kernel's")
	return had
}

// tables: those of a space, without the kernel's part.
func (x *model) tables(had map[int]string, table, level int, what string) {
	x.have(had, table, what)
	for place := range 512 {
		if next, ok := x.entry(table, place); ok && level > 1 && (level < 4 || place < 256) {
			x.tables(had, next, level-1, what)
		}
	}
}

func (x *model) wantSpace(id int, had map[int]string) {
	x.t.Helper()
	s := x.spaces[id]
	if got, want := x.m.Regions(id), regions(s.cells); !slices.Equal(got, want) {
		x.t.Fatalf("Regions(%d) = %v; want %v", id, got, want)
	}
	root, ok := x.m.Root(id)
	if !ok {
		x.t.Fatalf("no root of %d", id)
	}
	x.tables(had, root, 4, fmt.Sprint("a table of ", id))
	var led []int
	for page, c := range s.cells {
		if c.frame == 0 {
			continue
		}
		led = append(led, page)
		if c.kind == Own {
			x.have(had, c.frame, fmt.Sprint("page ", page, " of ", id))
		}
		for _, place := range []uint64{0, 2048, 4088} {
			if got, _ := x.m.RAM.Load(uint64(c.frame)*4096+place, 8); got != c.stamp<<9+place {
				x.t.Fatalf("page %d of %d: %x; want %x", page, id, got, c.stamp<<9+place)
			}
		}
	}
	slices.Sort(led)
	wantPages(x.t, x.m, id, led...)
	for page := range s.lentPages(x, id) {
		if x.m.spaces[id].lent[page] != x.lent(id, page) {
			x.t.Fatalf("page %d of %d is lent %d times", page, id, x.lent(id, page))
		}
	}
	if len(x.m.spaces[id].lent) != len(s.lentPages(x, id)) {
		x.t.Fatalf("kept of %d: %v", id, x.m.spaces[id].lent)
	}
}

// lentPages: of which pages it is kept how often they are lent.
func (s *plain) lentPages(x *model, id int) map[int]cell {
	all := map[int]cell{}
	for page := range s.cells {
		if c, ok := x.owned(id, page); ok {
			all[page] = c
		}
	}
	return all
}

// end: all is given back, in any order, and all spaces are gone.
func (x *model) end() {
	for id, s := range x.spaces {
		for at, c := range s.cells {
			if c.kind == Borrowed {
				x.check("Back", x.m.Back(c.source[0], c.source[1], id, at), api.OK)
				delete(s.cells, at)
			}
		}
	}
	for _, id := range x.m.Spaces() {
		x.close(id)
	}
}

// step: a call; the machine beside the model, and all that a call could have changed that is refused.
func (x *model) step() {
	before := ""
	if x.rnd.Intn(15) == 0 {
		before = stateOf(x.m)
	}
	x.wrong = false
	x.one()
	if x.rnd.Intn(4) == 0 {
		x.wantModel()
	}
	if x.wrong && before != "" && stateOf(x.m) != before {
		x.t.Fatal("a call that was refused has changed something")
	}
}

// P12.1, P12.2, P12.3, P12.4: any calls, beside the model.
func TestModel(t *testing.T) {
	told := map[string]int{}
	for round := range 25 {
		rnd := rand.New(rand.NewSource(int64(1200 + round)))
		p := planOf(40 + rnd.Intn(60))
		p.Tags = 1 + rnd.Intn(6)
		m, e := Boot(p)
		must(t, "Boot", e)
		soil(m)
		free := freeOf(m)
		for _, may := range []int{7, 12, rnd.Intn(10)} {
			child(t, m, may)
		}
		x := &model{t: t, m: m, rnd: rnd, spaces: map[int]*plain{}, told: told}
		for range 500 {
			x.step()
		}
		x.end()
		x.wantModel()
		if freeOf(m) != free {
			t.Fatalf("round %d: all are gone: %s; want %s", round, freeOf(m), free)
		}
	}
	for call, answers := range map[string][]api.Errno{
		"Open":     {api.OK, api.ErrArg, api.ErrThere, api.ErrNone, api.ErrQuota},
		"Map":      {api.OK, api.ErrNone, api.ErrArg, api.ErrThere},
		"Unmap":    {api.OK, api.ErrNone, api.ErrArg, api.ErrBusy},
		"Protect":  {api.OK, api.ErrNone, api.ErrArg, api.ErrBusy},
		"Touch":    {api.OK, api.ErrNone, api.ErrFault, api.ErrQuota},
		"Lend":     {api.OK, api.ErrNone, api.ErrPerm, api.ErrArg, api.ErrThere, api.ErrQuota},
		"Lendable": {api.OK, api.ErrNone, api.ErrPerm},
		"Back":     {api.OK, api.ErrNone},
		"Close":    {api.OK, api.ErrNone, api.ErrBusy},
	} {
		for _, e := range answers {
			if told[fmt.Sprint(call, " ", e)] < 5 {
				t.Errorf("%s was answered %d but %d times", call, e, told[fmt.Sprint(call, " ", e)])
			}
		}
	}
}
