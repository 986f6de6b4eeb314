package trap

import (
	"fmt"
	"math"
	"math/rand"
	"testing"

	"demesne/api"
)

// model says what each call answers of any state, by plain lists, and counts how often each had which answer.
type model struct {
	t    *testing.T
	rnd  *rand.Rand
	told map[string]int
}

const theNaN = 0x7ff8000000000000

func (m *model) check(what string, got State, e api.Errno, want State, wantErr api.Errno) State {
	m.t.Helper()
	if wants(m.t, what, got, e, want, wantErr); m.t.Failed() {
		m.t.FailNow()
	}
	m.told[fmt.Sprint(what, " ", e)]++
	return got
}

// word: any number, more often one that is dear to reckoning.
func (m *model) word() uint64 {
	dear := []float64{0, math.Copysign(0, -1), 1, -1, 3, math.MaxFloat64, math.SmallestNonzeroFloat64, math.Inf(1), math.Inf(-1), math.NaN()}
	switch n := m.rnd.Intn(16); {
	case n < len(dear):
		return bits(dear[n])
	case n == len(dear):
		return 0x7ff0000000000001 // a NaN that signals
	}
	return m.rnd.Uint64()
}

func (m *model) regs() Regs {
	return Regs{m.word(), m.word(), m.word(), m.word()}
}

// state: any, with and without an entry, at it and not.
func (m *model) state() State {
	s := State{Regs: m.regs(), Told: m.rnd.Intn(8), Entry: m.word(), In: m.rnd.Intn(2) == 0, Fault: m.fault(), Saved: m.regs()}
	if m.rnd.Intn(3) == 0 {
		s.Entry = 0
	}
	return s
}

func (m *model) fault() api.Fault {
	return api.Fault{Addr: m.rnd.Uint64() >> m.rnd.Intn(64), Code: m.rnd.Intn(32)}
}

// at: a register, now and then a number that is none.
func (m *model) at() int {
	if m.rnd.Intn(8) == 0 {
		return strangers[m.rnd.Intn(len(strangers))]
	}
	return m.rnd.Intn(4)
}

func (m *model) raise(s State) State {
	f := m.fault()
	got, e := Raise(s, f)
	switch {
	case s.Entry == 0:
		return m.check("Raise", got, e, s, api.ErrNone)
	case s.In:
		return m.check("Raise", got, e, s, api.ErrBusy)
	}
	return m.check("Raise", got, e, State{Regs{f.Addr, uint64(f.Code), 0, 0}, s.Told, s.Entry, true, f, s.Regs}, api.OK)
}

func (m *model) ret(s State) State {
	got, e := Return(s)
	if !s.In {
		return m.check("Return", got, e, s, api.ErrNone)
	}
	return m.check("Return", got, e, State{s.Saved, s.Told, s.Entry, false, api.Fault{}, Regs{}}, api.OK)
}

func (m *model) handle(s State) State {
	entry := m.word()
	got, e := Handle(s, entry)
	if s.In {
		return m.check("Handle", got, e, s, api.ErrBusy)
	}
	return m.check("Handle", got, e, State{s.Regs, s.Told, entry, false, s.Fault, s.Saved}, api.OK)
}

func (m *model) move(s State) State {
	at, x := m.at(), m.word()
	got, e := Move(s, at, x)
	want, wantErr := s, api.ErrArg
	for i := range 4 {
		if i == at {
			want.Regs[i], wantErr = x, api.OK
		}
	}
	return m.check("Move", got, e, want, wantErr)
}

func (m *model) reckon(s State) State {
	op, a, b, to := m.rnd.Intn(11)-1, m.at(), m.at(), m.at()
	got, e := Reckon(s, op, a, b, to)
	if min(a, b, to) < 0 || max(a, b, to) > 3 || op < 1 || op > 8 {
		return m.check("Reckon", got, e, s, api.ErrArg)
	}
	want := s
	x, told := result(op, s.Regs[a], s.Regs[b])
	want.Regs[to] = x
	for bit := 1; bit <= 4; bit *= 2 {
		if told == bit && s.Told/bit%2 == 0 {
			want.Told += bit
		}
	}
	return m.check("Reckon", got, e, want, api.OK)
}

// result: of an operation, and what it tells, by the library's numbers.
func result(op int, a, b uint64) (uint64, int) {
	switch op {
	case 7:
		return a ^ 1<<63, 0
	case 8:
		return a << 1 >> 1, 0
	}
	x, y := math.Float64frombits(a), math.Float64frombits(b)
	if math.IsNaN(x) || math.IsNaN(y) {
		if math.IsNaN(x) && a>>51&1 == 0 || math.IsNaN(y) && b>>51&1 == 0 {
			return theNaN, 1
		}
		return theNaN, 0
	}
	r := []float64{1: x + y, 2: x - y, 3: x * y, 4: x / y, 5: math.Min(x, y), 6: math.Max(x, y)}[op]
	infinite := math.IsInf(x, 0) || math.IsInf(y, 0)
	switch {
	case math.IsNaN(r):
		return theNaN, 1
	case !math.IsInf(r, 0) || infinite:
		return bits(r), 0
	case op == 4 && y == 0:
		return bits(r), 2
	}
	return bits(r), 4
}

// step: one call of a state; the one behind it.
func (m *model) step(s State) State {
	switch m.rnd.Intn(6) {
	case 0:
		return m.raise(s)
	case 1:
		return m.ret(s)
	case 2:
		return m.handle(s)
	case 3:
		return m.move(s)
	}
	return m.reckon(s)
}

// P17.1: any calls of any states, beside a plain model.
func TestModel(t *testing.T) {
	m := &model{t: t, rnd: rand.New(rand.NewSource(1)), told: map[string]int{}}
	for range 60000 {
		s := m.state()
		for range 1 + m.rnd.Intn(6) {
			s = m.step(s)
		}
	}
	for _, what := range []string{"Raise 0", "Raise 5", "Raise 11", "Return 0", "Return 5", "Handle 0", "Handle 11", "Move 0", "Move 1", "Reckon 0", "Reckon 1"} {
		if m.told[what] < 1000 {
			t.Errorf("%s: %d times only", what, m.told[what])
		}
	}
}

// P17.2: of any state that isn't at its entry, and has nothing saved: as it was.
func TestModelFaultAndReturn(t *testing.T) {
	m := &model{t: t, rnd: rand.New(rand.NewSource(2)), told: map[string]int{}}
	for range 20000 {
		s := State{Regs: m.regs(), Told: m.rnd.Intn(8), Entry: 1 + m.rnd.Uint64()>>1}
		up, e := Raise(s, m.fault())
		if e != api.OK {
			t.Fatalf("Raise(%+v): %d", s, e)
		}
		for range m.rnd.Intn(4) {
			up = m.move(up)
		}
		back, e := Return(up)
		if wants(t, "Return", back, e, s, api.OK); t.Failed() {
			t.FailNow()
		}
	}
}
