package sched

import (
	"math"
	"slices"
	"testing"

	"demesne/api"
)

// strangers: numbers that are no process's.
var strangers = []int{math.MinInt, math.MinInt + 1, -1 << 32, -17, -16, -2, -1, 16, 17, 32, 255, 1 << 32, 1<<32 + 1, math.MaxInt - 1, math.MaxInt}

// queue: these wait; a turn has so many ticks.
func queue(t *testing.T, quantum int, line ...int) *Queue {
	t.Helper()
	q, e := New(quantum)
	if q == nil || e != api.OK {
		t.Fatalf("New(%d) = %v, %d", quantum, q, e)
	}
	for _, p := range line {
		add(t, q, p, api.OK)
	}
	return q
}

func add(t *testing.T, q *Queue, p int, want api.Errno) {
	t.Helper()
	if e := q.Add(p); e != want {
		t.Errorf("Add(%d) = %d; want %d", p, e, want)
	}
}

func remove(t *testing.T, q *Queue, p int, want api.Errno) {
	t.Helper()
	if e := q.Remove(p); e != want {
		t.Errorf("Remove(%d) = %d; want %d", p, e, want)
	}
}

func tick(t *testing.T, q *Queue, want bool) {
	t.Helper()
	if over := q.Tick(); over != want {
		t.Errorf("Tick() = %v; want %v", over, want)
	}
}

// ticks: so many of them, none of which ends a turn.
func ticks(t *testing.T, q *Queue, n int) {
	t.Helper()
	for range n {
		tick(t, q, false)
	}
}

// wants: all that may be asked of a queue: how many ticks went by, and who waits.
func wants(t *testing.T, q *Queue, ticks int, line ...int) {
	t.Helper()
	if got := q.Line(); !slices.Equal(got, line) {
		t.Errorf("Line() = %v; want %v", got, line)
	}
	if n := q.Ticks(); n != ticks {
		t.Errorf("Ticks() = %d; want %d", n, ticks)
	}
	first := 0
	if len(line) > 0 {
		first = line[0]
	}
	if p, ok := q.Now(); p != first || ok != (len(line) > 0) {
		t.Errorf("Now() = %d, %v; want %d of %v", p, ok, first, line)
	}
}

// P16.1: the chapter's example.
func TestExample(t *testing.T) {
	q := queue(t, 2)
	add(t, q, 5, api.OK)
	add(t, q, 7, api.OK)
	wants(t, q, 0, 5, 7)
	tick(t, q, false)
	wants(t, q, 1, 5, 7)
	tick(t, q, true)
	wants(t, q, 0, 7, 5)
	remove(t, q, 7, api.OK)
	wants(t, q, 0, 5)
}

// P16.1: New of 1 to 1000, and of no other number; at first nobody waits.
func TestNew(t *testing.T) {
	for _, quantum := range []int{math.MinInt, -1000, -1, 0, 1001, 1002, 1 << 32, 1<<32 + 1, math.MaxInt} {
		if q, e := New(quantum); q != nil || e != api.ErrArg {
			t.Errorf("New(%d) = %v, %d; want ErrArg", quantum, q, e)
		}
	}
	for _, quantum := range []int{1, 2, 3, 999, 1000} {
		q := queue(t, quantum)
		wants(t, q, 0)
		add(t, q, 3, api.OK)
		ticks(t, q, quantum-1)
		wants(t, q, quantum-1, 3)
		tick(t, q, true)
		wants(t, q, 0, 3)
	}
}

// P16.1: whatever is asked of a queue in which nobody waits; nothing of it shows behind.
func TestNobody(t *testing.T) {
	for _, quantum := range []int{1, 2, 1000} {
		q := queue(t, quantum)
		empty := *q
		for range 3 {
			tick(t, q, false)
			q.Yield()
			for p := range 16 {
				remove(t, q, p, api.ErrNone)
			}
			wants(t, q, 0)
		}
		if *q != empty {
			t.Errorf("something is kept: %+v", *q)
		}
		add(t, q, 0, api.OK) // 0 waits, and not as nobody does
		wants(t, q, 0, 0)
		remove(t, q, 0, api.OK)
		wants(t, q, 0)
		if *q != empty {
			t.Errorf("something is kept: %+v", *q)
		}
	}
}

// P16.1: Add of each process, of numbers that are none, of one that waits at each place, and behind its Remove; the turn's ticks stay.
func TestAdd(t *testing.T) {
	q := queue(t, 5)
	line := []int{15, 0, 7, 14, 1, 2, 3, 4, 5, 6, 8, 9, 10, 11, 12, 13}
	for i, p := range line {
		add(t, q, p, api.OK)
		wants(t, q, min(i, 1), line[:i+1]...)
		if i == 0 {
			tick(t, q, false)
		}
		for _, there := range line[:i+1] {
			add(t, q, there, api.ErrThere)
		}
		for _, none := range strangers {
			add(t, q, none, api.ErrArg)
			remove(t, q, none, api.ErrNone)
		}
		wants(t, q, 1, line[:i+1]...)
	}
	remove(t, q, 7, api.OK)
	add(t, q, 7, api.OK)
	add(t, q, 7, api.ErrThere)
	wants(t, q, 1, append(slices.DeleteFunc(slices.Clone(line), func(p int) bool { return p == 7 }), 7)...)
}

// P16.1: Remove at each place of lines of each length, with ticks of the turn gone by: with the first one they are gone, with others they stay.
func TestRemove(t *testing.T) {
	for n := 1; n <= 16; n++ {
		for i := range n {
			q := queue(t, 4)
			line := []int{3, 9, 0, 15, 1, 2, 4, 5, 6, 7, 8, 10, 11, 12, 13, 14}[:n]
			for _, p := range line {
				add(t, q, p, api.OK)
			}
			ticks(t, q, 3)
			remove(t, q, line[i], api.OK)
			rest := slices.Delete(slices.Clone(line), i, i+1)
			left := 3
			if i == 0 {
				left = 0
			}
			wants(t, q, left, rest...)
			remove(t, q, line[i], api.ErrNone)
			wants(t, q, left, rest...)
			add(t, q, line[i], api.OK)
			wants(t, q, left, append(rest, line[i])...)
		}
	}
}

// P16.1: Remove of one that doesn't wait, of a number that is none, and of 0, which is what nobody's place is filled with.
func TestRemoveNone(t *testing.T) {
	q := queue(t, 9, 4, 2)
	ticks(t, q, 5)
	for _, p := range append([]int{0, 1, 3, 5, 15}, strangers...) {
		remove(t, q, p, api.ErrNone)
		wants(t, q, 5, 4, 2)
	}
	remove(t, q, 4, api.OK)
	ticks(t, q, 8)
	tick(t, q, true)
	wants(t, q, 0, 2)
	remove(t, q, 4, api.ErrNone)
	remove(t, q, 0, api.ErrNone)
	remove(t, q, 2, api.OK)
	remove(t, q, 2, api.ErrNone)
	wants(t, q, 0)
}

// P16.1: Yield of nobody, of one, and of several, with and without ticks gone by.
func TestYield(t *testing.T) {
	q := queue(t, 3)
	q.Yield()
	wants(t, q, 0)
	add(t, q, 6, api.OK)
	q.Yield()
	wants(t, q, 0, 6)
	ticks(t, q, 2)
	q.Yield()
	wants(t, q, 0, 6)
	ticks(t, q, 2) // a whole turn from there on
	add(t, q, 1, api.OK)
	wants(t, q, 2, 6, 1)
	q.Yield()
	wants(t, q, 0, 1, 6)
	add(t, q, 0, api.OK)
	q.Yield()
	wants(t, q, 0, 6, 0, 1)
	ticks(t, q, 1)
	q.Yield()
	wants(t, q, 0, 0, 1, 6)
	ticks(t, q, 2)
	tick(t, q, true)
	wants(t, q, 0, 1, 6, 0)
}

// P16.1: Yield of all that there may be.
func TestYieldFull(t *testing.T) {
	line := []int{0, 1, 2, 3, 4, 5, 6, 7, 8, 9, 10, 11, 12, 13, 14, 15}
	q := queue(t, 1000, line...)
	for range 40 {
		wants(t, q, 0, line...)
		tick(t, q, false)
		wants(t, q, 1, line...)
		q.Yield()
		line = append(line[1:], line[0])
	}
}

// P16.1: the tick that makes quantum of them, with one and with several that wait.
func TestTick(t *testing.T) {
	for _, quantum := range []int{1, 2, 3, 10, 1000} {
		for n := 1; n <= 16; n++ {
			var line []int
			for i := range n {
				line = append(line, (5*i+3)%16)
			}
			q := queue(t, quantum, line...)
			for range n + 1 {
				for gone := range quantum {
					wants(t, q, gone, line...)
					tick(t, q, gone == quantum-1)
				}
				line = append(line[1:], line[0])
			}
			wants(t, q, 0, line...)
		}
	}
}

// P16.2: of n that wait each has its turn for quantum of n times quantum ticks, and again behind them, from whichever tick of a turn on.
func TestAgain(t *testing.T) {
	for _, quantum := range []int{1, 2, 7, 100, 1000} {
		for n := 1; n <= 16; n++ {
			q := queue(t, quantum)
			for i := range n {
				add(t, q, 15-i, api.OK)
			}
			for range quantum / 2 {
				q.Tick()
			}
			line, gone := q.Line(), q.Ticks()
			had, over := map[int]int{}, 0
			for range n * quantum {
				p, _ := q.Now()
				had[p]++
				if q.Tick() {
					over++
				}
			}
			wants(t, q, gone, line...)
			for _, p := range line {
				if had[p] != quantum {
					t.Errorf("%d of %d, quantum %d: had its turn for %d ticks", p, n, quantum, had[p])
				}
			}
			if len(had) != n || over != n {
				t.Errorf("%d that wait, quantum %d: %d had their turn, %d turns were over", n, quantum, len(had), over)
			}
		}
	}
}

// P2 (K3): what Line answered is the caller's own, with its spare room; the queue changes no answer, and no other queue.
func TestApart(t *testing.T) {
	q, other := queue(t, 2, 4, 5, 6), queue(t, 2, 9)
	line, same := q.Line(), q.Line()
	for i := range line {
		line[i] = 13
	}
	line = append(line[:1], 1, 2, 3, 7, 8)
	wants(t, q, 0, 4, 5, 6)
	if !slices.Equal(same, []int{4, 5, 6}) {
		t.Errorf("an answer has changed: %v", same)
	}
	line = q.Line()
	spare := line[:cap(line)]
	for i := range spare {
		spare[i] = 12
	}
	add(t, q, 7, api.OK)
	wants(t, q, 0, 4, 5, 6, 7)
	line = q.Line()
	tick(t, q, false)
	q.Yield()
	remove(t, q, 5, api.OK)
	remove(t, q, 6, api.OK)
	if !slices.Equal(line, []int{4, 5, 6, 7}) {
		t.Errorf("an answer has changed: %v", line)
	}
	wants(t, other, 0, 9)
	none := queue(t, 2)
	_ = append(none.Line(), 8)
	wants(t, none, 0)
	add(t, none, 3, api.OK)
	wants(t, none, 0, 3)
}

// P2 (K3): what is asked changes nothing, and a copy of a queue has a line of its own.
func TestCopy(t *testing.T) {
	q := queue(t, 3, 1, 2, 3)
	tick(t, q, false)
	before := *q
	q.Now()
	q.Line()
	q.Ticks()
	if *q != before {
		t.Errorf("%+v was %+v", *q, before)
	}
	q.Yield()
	remove(t, q, 1, api.OK)
	wants(t, &before, 1, 1, 2, 3)
	before.Yield()
	wants(t, &before, 0, 2, 3, 1)
	wants(t, q, 0, 2, 3)
}
