package sched

import (
	"fmt"
	"math/rand"
	"slices"
	"testing"

	"demesne/api"
)

// model is a queue as a plain list, and how often each call had which answer.
type model struct {
	t              *testing.T
	q              *Queue
	rnd            *rand.Rand
	quantum, ticks int
	line           []int
	told           map[string]int
}

// who: a process, now and then a number that is none.
func (m *model) who() int {
	if m.rnd.Intn(20) == 0 {
		return strangers[m.rnd.Intn(len(strangers))]
	}
	return m.rnd.Intn(16)
}

func (m *model) check(what string, got, want any) {
	m.t.Helper()
	if got != want {
		m.t.Fatalf("%s: %v; want %v, with %v and %d ticks", what, got, want, m.line, m.ticks)
	}
	m.told[fmt.Sprint(what, " ", want)]++
}

func (m *model) add() {
	p := m.who()
	want := api.OK
	switch {
	case p < 0 || p > 15:
		want = api.ErrArg
	case slices.Contains(m.line, p):
		want = api.ErrThere
	default:
		m.line = append(m.line, p)
	}
	m.check("Add", m.q.Add(p), want)
}

func (m *model) remove() {
	p := m.who()
	want := api.ErrNone
	if slices.Contains(m.line, p) {
		want = api.OK
		if m.line[0] == p {
			m.ticks = 0
		}
		m.line = slices.DeleteFunc(m.line, func(x int) bool { return x == p })
	}
	m.check("Remove", m.q.Remove(p), want)
}

// turn: the next one's turn begins.
func (m *model) turn() {
	m.ticks = 0
	if len(m.line) > 0 {
		m.line = append(m.line[1:], m.line[0])
	}
}

func (m *model) tick() {
	over := false
	if len(m.line) > 0 {
		m.ticks++
		if over = m.ticks == m.quantum; over {
			m.turn()
		}
	}
	m.check("Tick", m.q.Tick(), over)
}

// step: one call, of which mood says what it is more often: with few that come lines are short, with many long.
func (m *model) step(mood int) {
	switch n := m.rnd.Intn(100); {
	case n < 10+5*mood:
		m.add()
	case n < 40:
		m.remove()
	case n < 50:
		m.q.Yield()
		m.turn()
	default:
		m.tick()
	}
	wants(m.t, m.q, m.ticks, m.line...)
	if len(m.line) == 0 {
		m.told["nobody"]++
	} else if len(m.line) == 16 {
		m.told["all"]++
	}
	if m.t.Failed() {
		m.t.FailNow()
	}
}

// wantKept: nothing more is kept than who waits and how many ticks went by: as by a new queue that came to the same.
func (m *model) wantKept() {
	fresh := queue(m.t, m.quantum, m.line...)
	for range m.ticks {
		fresh.Tick()
	}
	if *m.q != *fresh {
		m.t.Fatalf("kept is %+v; want %+v", *m.q, *fresh)
	}
}

// P16.1: any calls, beside a plain model.
func TestModel(t *testing.T) {
	told := map[string]int{}
	for seed := range int64(150) {
		rnd := rand.New(rand.NewSource(seed))
		quantum := []int{1, 2, 3, 5, 1000}[seed%5]
		m := &model{t: t, q: queue(t, quantum), rnd: rnd, quantum: quantum, told: told}
		mood := 0
		for i := range 2000 {
			if i%200 == 0 {
				mood = rnd.Intn(6)
			}
			m.step(mood)
			m.wantKept()
		}
	}
	for _, what := range []string{"Add 0", "Add 1", "Add 6", "Remove 0", "Remove 5", "Tick false", "Tick true", "nobody", "all"} {
		if told[what] < 100 {
			t.Errorf("%s: %d times only", what, told[what])
		}
	}
}
