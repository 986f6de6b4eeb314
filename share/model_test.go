package share

import (
	"fmt"
	"maps"
	"math/rand"
	"slices"
	"testing"

	"demesne/api"
)

// model is grants as a plain map, and how often each call had which answer.
type model struct {
	t    *testing.T
	x    *Table
	rnd  *rand.Rand
	has  map[int]Grant
	told map[string]int
}

// who: a process, now and then a number that is none.
func (m *model) who() int {
	if m.rnd.Intn(20) == 0 {
		return strangers[m.rnd.Intn(len(strangers))]
	}
	return []int{0, 1, 2, 15}[m.rnd.Intn(4)]
}

func (m *model) page() int {
	return []int{-1, 0, 0, 0, 1, 1, 1, lastPage, lastPage, lastPage + 1}[m.rnd.Intn(10)]
}

// id: a grant, more often one that is there.
func (m *model) id() int {
	if ids := slices.Sorted(maps.Keys(m.has)); len(ids) > 0 && m.rnd.Intn(8) > 0 {
		return ids[m.rnd.Intn(len(ids))]
	}
	return m.rnd.Intn(300) - 20
}

// party: who a grant is from or to, more often than somebody else.
func (m *model) party(id int) int {
	g, ok := m.has[id]
	switch n := m.rnd.Intn(5); {
	case ok && n < 2:
		return g.From
	case ok && n < 4:
		return g.To
	}
	return m.who()
}

func (m *model) check(what string, got, want any, e, wantErr api.Errno) {
	m.t.Helper()
	if got != want || e != wantErr {
		m.t.Fatalf("%s: %+v, %d; want %+v, %d", what, got, e, want, wantErr)
	}
	m.told[fmt.Sprint(what, " ", e)]++
}

func (m *model) offer() {
	from, page, to, write := m.who(), m.page(), m.who(), m.rnd.Intn(2) == 0
	id, want := 0, api.ErrBig
	if from < 0 || from > 15 || to < 0 || to > 15 || from == to || page < 0 || page > lastPage {
		want = api.ErrArg
	} else {
		for i := 15; i >= 0; i-- {
			if _, ok := m.has[16*from+i]; !ok {
				id, want = 16*from+i, api.OK
			}
		}
	}
	got, e := m.x.Offer(from, page, to, write)
	m.check("Offer", got, id, e, want)
	if want == api.OK {
		m.has[id] = Grant{From: from, Page: page, To: to, Write: write}
	}
}

func (m *model) accept() {
	id := m.id()
	who, at := m.party(id), m.page()
	g, ok := m.has[id]
	want := api.OK
	switch {
	case !ok || g.To != who:
		want = api.ErrNone
	case g.Taken:
		want = api.ErrBusy
	case at < 0 || at > lastPage:
		want = api.ErrArg
	default:
		g.Taken, g.At = true, at
		m.has[id] = g
	}
	m.check("Accept", 0, 0, m.x.Accept(id, who, at), want)
}

func (m *model) leave() {
	id := m.id()
	who := m.party(id)
	g, want := m.has[id], api.OK
	if left := g; g.Taken && g.To == who {
		left.Taken, left.At = false, 0
		m.has[id] = left
	} else {
		g, want = Grant{}, api.ErrNone
	}
	got, e := m.x.Leave(id, who)
	m.check("Leave", got, g, e, want)
}

func (m *model) revoke() {
	id := m.id()
	who := m.party(id)
	g, ok := m.has[id]
	want := api.OK
	if ok && g.From == who {
		delete(m.has, id)
	} else {
		g, want = Grant{}, api.ErrNone
	}
	got, e := m.x.Revoke(id, who)
	m.check("Revoke", got, g, e, want)
}

func (m *model) of(p int) []int {
	var ids []int
	for id, g := range m.has {
		if g.From == p || g.To == p {
			ids = append(ids, id)
		}
	}
	slices.Sort(ids)
	return ids
}

func (m *model) clear() {
	p := m.who()
	var want []Grant
	for _, id := range m.of(p) {
		want = append(want, m.has[id])
		delete(m.has, id)
	}
	if got := m.x.Clear(p); !slices.Equal(got, want) {
		m.t.Fatalf("Clear(%d) = %+v; want %+v", p, got, want)
	}
	m.told[fmt.Sprint("Clear ", len(want) > 0)]++
}

// wantModel: all that may be asked is as the model has it.
func (m *model) wantModel() {
	m.t.Helper()
	for id := -2; id < 258; id++ {
		want, there := m.has[id]
		if g, ok := m.x.Get(id); g != want || ok != there {
			m.t.Fatalf("Get(%d) = %+v, %v; want %+v, %v", id, g, ok, want, there)
		}
	}
	for _, p := range []int{-1, 0, 1, 2, 3, 15, 16} {
		if ids := m.x.Of(p); !slices.Equal(ids, m.of(p)) {
			m.t.Fatalf("Of(%d) = %v; want %v", p, ids, m.of(p))
		}
		for _, page := range []int{-1, 0, 1, lastPage, lastPage + 1} {
			n := 0
			for _, g := range m.has {
				if g.Taken && g.From == p && g.Page == page {
					n++
				}
			}
			wantLent(m.t, m.x, p, page, n)
		}
	}
	if m.t.Failed() {
		m.t.FailNow()
	}
}

// P14.1: any calls, beside a plain model.
func TestModel(t *testing.T) {
	told := map[string]int{}
	for seed := range int64(12) {
		m := &model{t: t, x: &Table{}, rnd: rand.New(rand.NewSource(seed)), has: map[int]Grant{}, told: told}
		for range 3000 {
			switch n := m.rnd.Intn(100); {
			case n < 55:
				m.offer()
			case n < 75:
				m.accept()
			case n < 83:
				m.leave()
			case n < 99:
				m.revoke()
			default:
				m.clear()
			}
			m.wantModel()
		}
	}
	for _, what := range []string{"Offer 0", "Offer 1", "Offer 4", "Accept 0", "Accept 1", "Accept 5", "Accept 11", "Leave 0", "Leave 5", "Revoke 0", "Revoke 5", "Clear true", "Clear false"} {
		if told[what] < 10 {
			t.Errorf("%s: %d times only", what, told[what])
		}
	}
}
