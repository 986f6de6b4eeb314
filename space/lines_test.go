package space

import (
	"slices"
	"testing"

	"demesne/api"
	"demesne/tlb"
	"demesne/walk"
)

// keep: a page of a space is walked for, and the line that is found goes into a way.
func keep(t *testing.T, m *Machine, id, page, way int) tlb.Line {
	t.Helper()
	root, _ := m.Root(id)
	found, _, e := walk.Walk(m.RAM, root, uint64(page)*4096, loads)
	must(t, "Walk", e)
	l := tlb.Line{Valid: true, Tag: m.Tag(id), Page: page, Frame: found.Frame, Perm: found.Perm, Global: found.Global, Dirty: found.Dirty}
	must(t, "Fill", m.TLB.Fill(way, l))
	return l
}

// fill: a line by hand.
func fill(t *testing.T, m *Machine, way int, l tlb.Line) tlb.Line {
	t.Helper()
	l.Valid = true
	must(t, "Fill", m.TLB.Fill(way, l))
	return l
}

// kept: spaces 1 and 2 have pages 0 to 3 (1 leads to a frame, and 2 and 3), and a line of each in both.
func kept(t *testing.T) (m *Machine, lines map[[2]int]tlb.Line) {
	t.Helper()
	m = boot(t, 60)
	lines = map[[2]int]tlb.Line{}
	for id := 1; id <= 2; id++ {
		must(t, "Open", m.Open(id, 0))
		must(t, "Map", m.Map(id, pages(0, 4), write))
		for page := 1; page < 4; page++ {
			touch(t, m, id, page, stores)
			lines[[2]int{id, page}] = keep(t, m, id, page, id-1)
		}
	}
	wantStale(t, m)
	return m, lines
}

// some: these lines, in the order of the TLB.
func some(lines map[[2]int]tlb.Line, keys ...[2]int) []tlb.Line {
	var l []tlb.Line
	for _, k := range keys {
		l = append(l, lines[k])
	}
	return l
}

// P12.1, P12.3: Unmap and Protect drop the lines of the space's pages that led somewhere, and no others.
func TestLinesUnmapProtect(t *testing.T) {
	for i, f := range []func(m *Machine) api.Errno{
		func(m *Machine) api.Errno { return m.Unmap(1, pages(0, 3)) },
		func(m *Machine) api.Errno { return m.Protect(1, pages(0, 3), read) },
		func(m *Machine) api.Errno { return m.Protect(1, pages(0, 3), write) },
	} {
		m, lines := kept(t)
		odd := fill(t, m, 0, tlb.Line{Tag: m.Tag(1), Page: 8, Frame: 9})
		zero := fill(t, m, 1, tlb.Line{Tag: m.Tag(1), Page: 0, Frame: 9}) // page 0 leads nowhere
		must(t, "the call", f(m))
		wantLines(t, m, append([]tlb.Line{odd, zero}, some(lines, [2]int{2, 1}, [2]int{2, 2}, [2]int{1, 3}, [2]int{2, 3})...)...)
		wantStale(t, m, odd, zero)
		if i > 0 {
			l := keep(t, m, 1, 2, 0)
			if l.Dirty {
				t.Error("the entry isn't written anew")
			}
			wantStale(t, m, odd, zero)
		}
	}
}

// P12.1: a call that is refused drops no line (refuse looks at them).
func TestLinesRefused(t *testing.T) {
	m, _ := kept(t)
	must(t, "Lend", m.Lend(1, 3, 2, 9, read))
	keep(t, m, 2, 9, 0)
	refuse(t, m, "Unmap", api.ErrBusy, func() api.Errno { return m.Unmap(1, pages(0, 4)) })
	refuse(t, m, "Protect", api.ErrBusy, func() api.Errno { return m.Protect(1, pages(0, 4), read) })
	refuse(t, m, "Protect", api.ErrNone, func() api.Errno { return m.Protect(1, pages(0, 5), read) })
	refuse(t, m, "Close", api.ErrBusy, func() api.Errno { return m.Close(1) })
	refuse(t, m, "Back", api.ErrNone, func() api.Errno { return m.Back(1, 2, 2, 9) })
}

// P12.1, P12.3: Back drops the taker's line, not the lender's; Lend drops none.
func TestLinesBack(t *testing.T) {
	m, lines := kept(t)
	before := m.TLB.Lines()
	must(t, "Lend", m.Lend(1, 3, 2, 3+8, read))
	wantLines(t, m, before...)
	keep(t, m, 2, 3+8, 0) // in the place of the line of page 3 of 1
	keep(t, m, 1, 3, 1)   // in the place of the line of page 3 of 2
	wantStale(t, m)
	must(t, "Back", m.Back(1, 3, 2, 3+8))
	wantStale(t, m)
	wantLines(t, m, some(lines, [2]int{1, 1}, [2]int{2, 1}, [2]int{1, 2}, [2]int{2, 2}, [2]int{1, 3})...)
}

// P12.1, P12.3: Close drops all lines of the space's tag, of pages that led nowhere too, and the tag.
func TestLinesClose(t *testing.T) {
	m, lines := kept(t)
	tag := m.Tag(1)
	fill(t, m, 0, tlb.Line{Tag: tag, Page: 0, Frame: 9})
	fill(t, m, 0, tlb.Line{Tag: tag, Page: 77, Frame: 9})
	must(t, "Close", m.Close(1))
	wantLines(t, m, some(lines, [2]int{2, 1}, [2]int{2, 2}, [2]int{2, 3})...)
	wantStale(t, m)
	if got, ok := m.Tags.Tag(1); ok || got != 0 {
		t.Errorf("a space that is gone has tag %d", got)
	}
	must(t, "Open", m.Open(1, 0))
	if got := m.Tag(1); got != 3 || m.Tags.Generation() != 0 {
		t.Errorf("Tag = %d", got)
	}
}

// P12.1: Global lines go with a page that led somewhere (TLB.Page), and stay behind all else; they are never stale.
func TestLinesGlobal(t *testing.T) {
	wide := func(page int) tlb.Line { return tlb.Line{Valid: true, Tag: 9, Page: page, Frame: 3, Global: true} }
	calls := []func(m *Machine) api.Errno{
		func(m *Machine) api.Errno { return m.Unmap(1, pages(0, 4)) },
		func(m *Machine) api.Errno { return m.Protect(1, pages(0, 4), read) },
		func(m *Machine) api.Errno { return m.Close(1) },
	}
	for i, f := range calls {
		m, _ := kept(t)
		for page := range 5 {
			fill(t, m, 0, wide(page))
		}
		wantStale(t, m)
		must(t, "the call", f(m))
		wantLines(t, m, wide(0), wide(4))
		if i == 2 {
			continue
		}
		fill(t, m, 0, wide(2))
		must(t, "Close", m.Close(2))
		wantLines(t, m, wide(0), wide(4))
	}
}

// P12.1: without a tag a space has no lines, and none go: not another one's, not a Global one.
func TestLinesNoTag(t *testing.T) {
	m := boot(t, 40)
	for id := 1; id <= 2; id++ {
		must(t, "Open", m.Open(id, 0))
		must(t, "Map", m.Map(id, pages(0, 4), write))
		touch(t, m, id, 1, stores)
		touch(t, m, id, 2, stores)
	}
	zero := fill(t, m, 0, tlb.Line{Tag: 0, Page: 1, Frame: 5})
	wide := fill(t, m, 1, tlb.Line{Tag: 0, Page: 2, Frame: 5, Global: true})
	line := keep(t, m, 2, 1, 1)
	must(t, "Protect", m.Protect(1, pages(0, 4), read))
	must(t, "Unmap", m.Unmap(1, pages(0, 4)))
	must(t, "Close", m.Close(1))
	wantLines(t, m, zero, line, wide)
	wantStale(t, m, zero)
}

// P12.1: Tag, and which lines are left when a new generation begins.
func TestTag(t *testing.T) {
	m, _ := kept(t)
	wide := fill(t, m, 1, tlb.Line{Tag: 1, Page: 5, Frame: 5, Global: true})
	fill(t, m, 1, tlb.Line{Tag: 0, Page: 6, Frame: 5})
	before := m.TLB.Lines()
	if m.Tag(1) != 1 || m.Tag(2) != 2 || m.Tag(-7) != 3 || m.Tag(-7) != 3 || m.Tag(1) != 1 {
		t.Error("tags")
	}
	wantLines(t, m, before...)
	if m.Tag(8) != 1 || m.Tags.Generation() != 1 {
		t.Errorf("generation %d", m.Tags.Generation())
	}
	wantLines(t, m, wide)
	if _, ok := m.Tags.Tag(1); ok || m.Tag(2) != 2 || m.Tag(1) != 3 {
		t.Error("tags of the new generation")
	}
	keep(t, m, 1, 1, 0)
	keep(t, m, 2, 1, 1)
	wantStale(t, m)
}

// P12.1: Stale, with lines of walks, and with lines by hand that say otherwise.
func TestStale(t *testing.T) {
	m, lines := kept(t)
	good := lines[[2]int{1, 1}]
	nobody := m.Tag(50) // the tag of a number that is no space
	for i, c := range []struct {
		change func(l *tlb.Line)
		stale  bool
	}{
		{func(l *tlb.Line) {}, false},
		{func(l *tlb.Line) { l.Dirty = !l.Dirty }, false},
		{func(l *tlb.Line) { l.Frame++ }, true},
		{func(l *tlb.Line) { l.Frame = 0 }, true},
		{func(l *tlb.Line) { l.Perm.Write = false }, true},
		{func(l *tlb.Line) { l.Perm.User = false }, true},
		{func(l *tlb.Line) { l.Perm.Exec = true }, true},
		{func(l *tlb.Line) { l.Page = 2 }, true},
		{func(l *tlb.Line) { l.Page = 0 }, true},
		{func(l *tlb.Line) { l.Page = 0; l.Frame = 0; l.Perm = api.Perm{} }, true},
		{func(l *tlb.Line) { l.Page = top + 1 }, true},
		{func(l *tlb.Line) { l.Page = 1<<36 + 1 }, true},
		{func(l *tlb.Line) { l.Page = 1<<52 + 1 }, true},
		{func(l *tlb.Line) { l.Tag = 2 }, true},
		{func(l *tlb.Line) { l.Tag = 0 }, true},
		{func(l *tlb.Line) { l.Tag = nobody }, true},
		{func(l *tlb.Line) { l.Tag = 4095 }, true},
		{func(l *tlb.Line) { l.Frame++; l.Global = true }, false},
		{func(l *tlb.Line) { l.Tag = 4095; l.Global = true }, false},
	} {
		l := good
		c.change(&l)
		m.TLB.All(false)
		must(t, "Fill", m.TLB.Fill(0, l))
		if got := m.Stale(); c.stale && !slices.Equal(got, []tlb.Line{l}) || !c.stale && len(got) > 0 {
			t.Errorf("%d: Stale() = %v", i, got)
		}
		wantLines(t, m, l)
	}
}

// P12.1: the lines that are stale are told in the order of the TLB, and what isn't is left out.
func TestStaleOrder(t *testing.T) {
	m, lines := kept(t)
	a := fill(t, m, 1, tlb.Line{Tag: 9, Page: 3, Frame: 1})
	b := fill(t, m, 0, tlb.Line{Tag: 1, Page: 7, Frame: 1})
	c := fill(t, m, 0, tlb.Line{Tag: 0, Page: 0, Frame: 0})
	d := fill(t, m, 1, tlb.Line{Tag: 2, Page: 8, Frame: 1})
	wantStale(t, m, c, d, a, b)
	wantLines(t, m, append(append([]tlb.Line{c, d}, some(lines, [2]int{1, 1}, [2]int{2, 1}, [2]int{1, 2}, [2]int{2, 2}, [2]int{1, 3})...), a, b)...)
}

// P12.1: a line is stale behind the calls that change what it says, if it is put back by hand.
func TestStaleBehind(t *testing.T) {
	for i, f := range []func(m *Machine) api.Errno{
		func(m *Machine) api.Errno { return m.Unmap(1, pages(1, 2)) },
		func(m *Machine) api.Errno { return m.Protect(1, pages(1, 2), read) },
		func(m *Machine) api.Errno { return m.Close(1) },
		func(m *Machine) api.Errno { m.Tag(3); m.Tag(4); return api.OK },
	} {
		m, lines := kept(t)
		must(t, "the call", f(m))
		wantStale(t, m)
		l := lines[[2]int{1, 1}]
		fill(t, m, 0, l)
		if i == 3 {
			must(t, "Open", m.Open(4, 0)) // it has the tag now
		}
		wantStale(t, m, l)
	}
	m, _ := kept(t)
	must(t, "Lend", m.Lend(1, 1, 2, 9, read))
	l := keep(t, m, 2, 9, 1)
	must(t, "Back", m.Back(1, 1, 2, 9))
	fill(t, m, 1, l)
	wantStale(t, m, l)
}

// P12.3: lines of the kernel's part, which walks find to be Global, aren't stale.
func TestStaleKernel(t *testing.T) {
	m := boot(t, 40)
	must(t, "Open", m.Open(1, 0))
	root, _ := m.Root(1)
	addr := uint64(0xffff800000000000) + 7*4096
	found, _, e := walk.Walk(m.RAM, root, addr, api.Access{Write: true})
	must(t, "Walk", e)
	if found.Frame != 7 || !found.Global {
		t.Errorf("found: %+v", found)
	}
	fill(t, m, 0, tlb.Line{Tag: m.Tag(1), Page: int(addr / 4096), Frame: found.Frame, Perm: found.Perm, Global: found.Global})
	wantStale(t, m)
	must(t, "Close", m.Close(1))
	wantStale(t, m)
}

// P12.1: a line by a tag that nobody has is stale, though it says what is so of space 0.
func TestStaleNobody(t *testing.T) {
	m := boot(t, 40)
	must(t, "Open", m.Open(0, 0))
	must(t, "Map", m.Map(0, pages(0, 4), write))
	frame := touch(t, m, 0, 1, stores)
	line := fill(t, m, 0, tlb.Line{Tag: 0, Page: 1, Frame: frame, Perm: write})
	other := fill(t, m, 1, tlb.Line{Tag: 2, Page: 1, Frame: frame, Perm: write})
	wantStale(t, m, line, other)
	if tag := m.Tag(0); tag != 1 {
		t.Errorf("Tag(0) = %d", tag)
	}
	wantStale(t, m, line, other)
	m.Tag(5)
	wantStale(t, m, line, other)
	keep(t, m, 0, 1, 0)
	wantStale(t, m, other)
}
