package trap

import (
	"math"
	"testing"

	"demesne/api"
	"demesne/flt"
)

const greatest = math.MaxUint64

// strangers: numbers that are no register's.
var strangers = []int{math.MinInt, -5, -4, -1, 4, 5, 8, 1 << 32, math.MaxInt}

// full: a state in which no field is zero but In.
func full() State {
	return State{Regs: Regs{11, 12, 13, 14}, Told: 5, Entry: 4096, Fault: api.Fault{Addr: 7, Code: 3}, Saved: Regs{21, 22, 23, 24}}
}

// inside: the same at its entry.
func inside() State {
	s := full()
	s.In = true
	return s
}

// wants: a call's answer is that.
func wants(t *testing.T, what string, got State, e api.Errno, want State, wantErr api.Errno) {
	t.Helper()
	if got != want || e != wantErr {
		t.Errorf("%s: %+v, %d; want %+v, %d", what, got, e, want, wantErr)
	}
}

func bits(x float64) uint64 {
	return math.Float64bits(x)
}

// The chapter's example.
func TestExample(t *testing.T) {
	s, e := Handle(State{}, 4096)
	wants(t, "Handle", s, e, State{Entry: 4096}, api.OK)
	f := api.Fault{Addr: 9, Code: 6}
	up, e := Raise(s, f)
	wants(t, "Raise", up, e, State{Regs: Regs{9, 6, 0, 0}, Entry: 4096, In: true, Fault: f}, api.OK)
	again, e := Raise(up, f)
	wants(t, "Raise again", again, e, up, api.ErrBusy)
	back, e := Return(up)
	wants(t, "Return", back, e, s, api.OK)

	s, e = Move(s, 0, bits(1))
	wants(t, "Move", s, e, State{Regs: Regs{bits(1)}, Entry: 4096}, api.OK)
	s, e = Reckon(s, flt.Div, 0, 1, 2)
	wants(t, "Reckon", s, e, State{Regs: Regs{bits(1), 0, bits(math.Inf(1))}, Told: 2, Entry: 4096}, api.OK)
}

// P17.1: without an entry there is nowhere to go on, at it nothing more is raised; of both the first one is told.
func TestRaiseRefused(t *testing.T) {
	f := api.Fault{Addr: 99, Code: 6}
	nowhere := full()
	nowhere.Entry = 0
	both := inside()
	both.Entry = 0
	for _, c := range []struct {
		what string
		s    State
		want api.Errno
	}{
		{"the zero State", State{}, api.ErrNone},
		{"no entry", nowhere, api.ErrNone},
		{"at its entry", inside(), api.ErrBusy},
		{"both", both, api.ErrNone},
	} {
		got, e := Raise(c.s, f)
		wants(t, c.what, got, e, c.s, c.want)
	}
}

// P17.1: behind a fault the registers say it, those ahead are saved, and nothing else has changed.
func TestRaise(t *testing.T) {
	for _, f := range []api.Fault{{}, {Addr: 9, Code: 6}, {Addr: 1<<47 - 1, Code: 31}, {Addr: greatest, Code: math.MaxInt}, {Addr: 1, Code: -1}} {
		got, e := Raise(full(), f)
		want := State{Regs: Regs{f.Addr, uint64(f.Code), 0, 0}, Told: 5, Entry: 4096, In: true, Fault: f, Saved: Regs{11, 12, 13, 14}}
		wants(t, "Raise", got, e, want, api.OK)
	}
	for _, entry := range []uint64{1, 4096, greatest} {
		s, e := Raise(State{Entry: entry}, api.Fault{Addr: 2, Code: 4})
		wants(t, "any entry", s, e, State{Regs: Regs{2, 4}, Entry: entry, In: true, Fault: api.Fault{Addr: 2, Code: 4}}, api.OK)
	}
}

// P17.1: the registers are those that were saved, whatever was done with them since.
func TestReturn(t *testing.T) {
	got, e := Return(inside())
	wants(t, "at its entry", got, e, State{Regs: Regs{21, 22, 23, 24}, Told: 5, Entry: 4096}, api.OK)
	got, e = Return(State{In: true, Saved: Regs{1, 2, 3, 4}})
	wants(t, "without an entry", got, e, State{Regs: Regs{1, 2, 3, 4}}, api.OK)
	got, e = Return(full())
	wants(t, "not at its entry", got, e, full(), api.ErrNone)
	got, e = Return(State{})
	wants(t, "the zero State", got, e, State{}, api.ErrNone)
}

// P17.1: an entry is set, and taken away; but not while the process is there.
func TestHandle(t *testing.T) {
	for _, entry := range []uint64{0, 1, 4096, 1<<47 - 1, greatest} {
		want := full()
		want.Entry = entry
		got, e := Handle(full(), entry)
		wants(t, "Handle", got, e, want, api.OK)
		got, e = Handle(inside(), entry)
		wants(t, "at its entry", got, e, inside(), api.ErrBusy)
	}
	s, _ := Handle(full(), 0)
	got, e := Raise(s, api.Fault{Addr: 1, Code: 4})
	wants(t, "an entry of 0 is none", got, e, s, api.ErrNone)
}

// P17.1: each register, and no other one.
func TestMove(t *testing.T) {
	for at := range 4 {
		for _, s := range []State{{}, full(), inside()} {
			want := s
			want.Regs[at] = greatest
			got, e := Move(s, at, greatest)
			wants(t, "Move", got, e, want, api.OK)
		}
	}
	for _, at := range strangers {
		got, e := Move(full(), at, 1)
		wants(t, "no register", got, e, full(), api.ErrArg)
	}
}

// P17.1: each register as an operand and for the result, and nothing that is none.
func TestReckonRegisters(t *testing.T) {
	regs := Regs{bits(3), bits(5), bits(7), bits(11)}
	for _, s := range []State{{Regs: regs}, {Regs: regs, Told: 4, Entry: 1, In: true, Saved: Regs{1, 2, 3, 4}, Fault: api.Fault{Addr: 5, Code: 6}}} {
		for a := range 4 {
			for b := range 4 {
				for to := range 4 {
					want := s
					want.Regs[to] = bits(math.Float64frombits(regs[a]) - math.Float64frombits(regs[b]))
					got, e := Reckon(s, flt.Sub, a, b, to)
					wants(t, "Sub", got, e, want, api.OK)
				}
			}
		}
		for _, at := range strangers {
			for _, op := range []int{0, flt.Add, flt.Neg, 9} {
				got, e := Reckon(s, op, at, 3, 0)
				wants(t, "a", got, e, s, api.ErrArg)
				got, e = Reckon(s, op, 0, at, 3)
				wants(t, "b", got, e, s, api.ErrArg)
				got, e = Reckon(s, op, 3, 0, at)
				wants(t, "to", got, e, s, api.ErrArg)
				got, e = Reckon(s, op, at, at, at)
				wants(t, "all", got, e, s, api.ErrArg)
			}
		}
	}
}

// P17.1: each operation, from the first to the last.
func TestReckonOperations(t *testing.T) {
	s := State{Regs: Regs{bits(6), bits(-1.5), 1, 2}, Entry: 8}
	results := []float64{1: 4.5, 2: 7.5, 3: -9, 4: -4, 5: -1.5, 6: 6, 7: -6, 8: 6}
	for op := 1; op <= 8; op++ {
		want := s
		want.Regs[2] = bits(results[op])
		got, e := Reckon(s, op, 0, 1, 2)
		wants(t, "Reckon", got, e, want, api.OK)
	}
	for _, op := range []int{math.MinInt, -1, 0, 9, 10, 1 << 32, math.MaxInt} {
		got, e := Reckon(s, op, 0, 1, 2)
		wants(t, "no operation", got, e, s, api.ErrArg)
	}
}

// P17.1: the result may go to a register that is an operand, also to one that is both.
func TestReckonSameRegister(t *testing.T) {
	s := State{Regs: Regs{bits(6), bits(2)}}
	got, e := Reckon(s, flt.Div, 0, 1, 0)
	wants(t, "to the first", got, e, State{Regs: Regs{bits(3), bits(2)}}, api.OK)
	got, e = Reckon(s, flt.Div, 0, 1, 1)
	wants(t, "to the second", got, e, State{Regs: Regs{bits(6), bits(3)}}, api.OK)
	got, e = Reckon(s, flt.Mul, 0, 0, 0)
	wants(t, "to both", got, e, State{Regs: Regs{bits(36), bits(2)}}, api.OK)
}

// P17.1: what is told is added bit by bit: none is lost, and none is counted twice.
func TestTold(t *testing.T) {
	s := State{Regs: Regs{bits(1), 0, bits(math.MaxFloat64), 0}}
	for _, c := range []struct{ op, a, b, want int }{
		{flt.Add, 0, 0, 0},
		{flt.Div, 0, 1, flt.Divide},
		{flt.Div, 0, 1, flt.Divide},
		{flt.Add, 0, 0, flt.Divide},
		{flt.Add, 2, 2, flt.Divide | flt.Overflow},
		{flt.Add, 2, 2, flt.Divide | flt.Overflow},
		{flt.Neg, 2, 2, flt.Divide | flt.Overflow},
		{flt.Div, 1, 1, flt.Divide | flt.Overflow | flt.Invalid},
		{flt.Add, 0, 0, flt.Divide | flt.Overflow | flt.Invalid},
	} {
		var e api.Errno
		s, e = Reckon(s, c.op, c.a, c.b, 3)
		if s.Told != c.want || e != api.OK {
			t.Errorf("Reckon(%d, %d, %d): Told %d, %d; want %d", c.op, c.a, c.b, s.Told, e, c.want)
		}
	}
	s, _ = Handle(s, 1)
	s, _ = Raise(s, api.Fault{Addr: 1})
	if s, _ = Return(s); s.Told != 7 {
		t.Errorf("behind a fault: Told %d", s.Told)
	}
	if s, _ := Reckon(State{Told: 8 - 64}, flt.Div, 0, 0, 0); s.Told != 9-64 {
		t.Errorf("other bits: Told %d", s.Told)
	}
}

// P17.2: a fault and the return from it leave the state as it was, whatever the handler does with its registers.
func TestFaultAndReturn(t *testing.T) {
	s := State{Regs: Regs{11, 12, 13, 14}, Told: 2, Entry: 4096}
	up, e := Raise(s, api.Fault{Addr: 5, Code: 4})
	if e != api.OK {
		t.Fatalf("Raise: %d", e)
	}
	back, e := Return(up)
	wants(t, "Return", back, e, s, api.OK)
	for at := range 4 {
		up, _ = Move(up, at, 77)
	}
	Raise(up, api.Fault{Addr: 6, Code: 6})
	up, _ = Reckon(up, flt.Add, 0, 1, 2)
	back, e = Return(up)
	wants(t, "Return behind a handler", back, e, s, api.OK)
	again, e := Raise(back, api.Fault{Addr: 7, Code: 5})
	wants(t, "Raise anew", again, e, State{Regs: Regs{7, 5}, Told: 2, Entry: 4096, In: true, Fault: api.Fault{Addr: 7, Code: 5}, Saved: s.Regs}, api.OK)
}
