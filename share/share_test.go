package share

import (
	"fmt"
	"math"
	"slices"
	"testing"

	"demesne/api"
)

const lastPage = 1<<35 - 1

// odd: numbers that are neither processes nor pages nor grants in the tests.
var odd = []int{math.MinInt, math.MinInt + 1, -1 << 40, -257, -256, -17, -16, -1, 256, 257, 272, 1 << 35, 1<<35 + 1, 1 << 40, math.MaxInt - 1, math.MaxInt}

// strangers: numbers that are no process's.
var strangers = append([]int{16, 17, 32, 255}, odd...)

// offer: a grant more, with this number.
func offer(t *testing.T, x *Table, from, page, to int, write bool, want int) {
	t.Helper()
	if id, e := x.Offer(from, page, to, write); id != want || e != api.OK {
		t.Fatalf("Offer(%d, %d, %d, %v) = %d, %d; want %d", from, page, to, write, id, e, want)
	}
}

// accept: a grant is taken.
func accept(t *testing.T, x *Table, id, who, at int) {
	t.Helper()
	if e := x.Accept(id, who, at); e != api.OK {
		t.Fatalf("Accept(%d, %d, %d) = %d", id, who, at, e)
	}
}

// refuse: a call has this error, and nothing has changed: neither what is told of the table nor what it keeps.
func refuse(t *testing.T, x *Table, what string, want api.Errno, f func() api.Errno) {
	t.Helper()
	before, told := *x, tell(x)
	if e := f(); e != want {
		t.Errorf("%s: %d; want %d", what, e, want)
	}
	if *x != before || tell(x) != told {
		t.Errorf("%s: something has changed", what)
	}
}

func refuseOffer(t *testing.T, x *Table, from, page, to int, want api.Errno) {
	t.Helper()
	for _, write := range []bool{false, true} {
		what := fmt.Sprintf("Offer(%d, %d, %d, %v)", from, page, to, write)
		refuse(t, x, what, want, func() api.Errno {
			id, e := x.Offer(from, page, to, write)
			if id != 0 {
				t.Errorf("%s: %d beside an error", what, id)
			}
			return e
		})
	}
}

func refuseAccept(t *testing.T, x *Table, id, who, at int, want api.Errno) {
	t.Helper()
	refuse(t, x, fmt.Sprintf("Accept(%d, %d, %d)", id, who, at), want, func() api.Errno {
		return x.Accept(id, who, at)
	})
}

func refuseLeave(t *testing.T, x *Table, id, who int) {
	t.Helper()
	refuse(t, x, fmt.Sprintf("Leave(%d, %d)", id, who), api.ErrNone, func() api.Errno {
		g, e := x.Leave(id, who)
		if g != (Grant{}) {
			t.Errorf("Leave(%d, %d): %+v beside an error", id, who, g)
		}
		return e
	})
}

func refuseRevoke(t *testing.T, x *Table, id, who int) {
	t.Helper()
	refuse(t, x, fmt.Sprintf("Revoke(%d, %d)", id, who), api.ErrNone, func() api.Errno {
		g, e := x.Revoke(id, who)
		if g != (Grant{}) {
			t.Errorf("Revoke(%d, %d): %+v beside an error", id, who, g)
		}
		return e
	})
}

func leave(t *testing.T, x *Table, id, who int, want Grant) {
	t.Helper()
	if g, e := x.Leave(id, who); g != want || e != api.OK {
		t.Errorf("Leave(%d, %d) = %+v, %d; want %+v", id, who, g, e, want)
	}
}

func revoke(t *testing.T, x *Table, id, who int, want Grant) {
	t.Helper()
	if g, e := x.Revoke(id, who); g != want || e != api.OK {
		t.Errorf("Revoke(%d, %d) = %+v, %d; want %+v", id, who, g, e, want)
	}
}

func wantGet(t *testing.T, x *Table, id int, want Grant) {
	t.Helper()
	if g, ok := x.Get(id); g != want || !ok {
		t.Errorf("Get(%d) = %+v, %v; want %+v", id, g, ok, want)
	}
}

func wantNone(t *testing.T, x *Table, ids ...int) {
	t.Helper()
	for _, id := range ids {
		if g, ok := x.Get(id); g != (Grant{}) || ok {
			t.Errorf("Get(%d) = %+v, %v; want none", id, g, ok)
		}
	}
}

func wantOf(t *testing.T, x *Table, p int, want ...int) {
	t.Helper()
	if ids := x.Of(p); !slices.Equal(ids, want) {
		t.Errorf("Of(%d) = %v; want %v", p, ids, want)
	}
}

func wantClear(t *testing.T, x *Table, p int, want ...Grant) {
	t.Helper()
	if gone := x.Clear(p); !slices.Equal(gone, want) {
		t.Errorf("Clear(%d) = %+v; want %+v", p, gone, want)
	}
}

func wantLent(t *testing.T, x *Table, from, page, want int) {
	t.Helper()
	if n := x.Lent(from, page); n != want {
		t.Errorf("Lent(%d, %d) = %d; want %d", from, page, n, want)
	}
}

// tell: all that may be asked of a table, as a text.
func tell(x *Table) string {
	var text string
	for id := -17; id < 273; id++ {
		if g, ok := x.Get(id); ok {
			text += fmt.Sprint(id, g, x.Lent(g.From, g.Page), "\n")
		}
	}
	for p := -1; p < 17; p++ {
		text += fmt.Sprint(p, x.Of(p), "\n")
	}
	return text
}

// The chapter's example.
func TestExample(t *testing.T) {
	var x Table
	offer(t, &x, 2, 7, 3, true, 32)
	refuseAccept(t, &x, 32, 4, 9, api.ErrNone)
	accept(t, &x, 32, 3, 9)
	refuseAccept(t, &x, 32, 3, 9, api.ErrBusy)
	wantLent(t, &x, 2, 7, 1)
	refuseRevoke(t, &x, 32, 3)
	leave(t, &x, 32, 3, Grant{From: 2, Page: 7, To: 3, Write: true, Taken: true, At: 9})
	wantGet(t, &x, 32, Grant{From: 2, Page: 7, To: 3, Write: true})
	wantLent(t, &x, 2, 7, 0)
}

// P14.1: the zero Table has no grants, whatever is asked of it.
func TestZero(t *testing.T) {
	var x Table
	for _, n := range append([]int{0, 1, 15, 16, 255}, odd...) {
		wantNone(t, &x, n)
		wantOf(t, &x, n)
		wantClear(t, &x, n)
		wantLent(t, &x, n, n, 0)
		wantLent(t, &x, 0, n, 0)
		wantLent(t, &x, n, 0, 0)
		for _, who := range append([]int{0, 1, 15}, odd...) {
			refuseAccept(t, &x, n, who, 0, api.ErrNone)
			refuseAccept(t, &x, n, who, n, api.ErrNone)
			refuseLeave(t, &x, n, who)
			refuseRevoke(t, &x, n, who)
		}
	}
	if x != (Table{}) {
		t.Error("the table has something")
	}
}

// P14.1: what Offer puts there, from each process to each other one, and its numbers.
func TestOffer(t *testing.T) {
	for from := range 16 {
		for to := range 16 {
			var x Table
			if from == to {
				refuseOffer(t, &x, from, 0, to, api.ErrArg)
				continue
			}
			for i, page := range []int{0, 1, 7, lastPage - 1, lastPage, 0} {
				write := i%2 == 0
				offer(t, &x, from, page, to, write, 16*from+i)
				wantGet(t, &x, 16*from+i, Grant{From: from, Page: page, To: to, Write: write})
				wantLent(t, &x, from, page, 0)
			}
			wantNone(t, &x, 16*from-1, 16*from+6)
		}
	}
}

// P14.1: each wrong argument of Offer, alone and beside others, also of a process that has 16 grants.
func TestOfferArg(t *testing.T) {
	var empty, full Table
	for i := range 16 {
		offer(t, &full, 2, i, 3, true, 32+i)
	}
	for _, x := range []*Table{&empty, &full} {
		for _, p := range strangers {
			refuseOffer(t, x, p, 0, 3, api.ErrArg)
			refuseOffer(t, x, 2, 0, p, api.ErrArg)
			refuseOffer(t, x, p, 0, p, api.ErrArg)
			refuseOffer(t, x, p, -1, 2, api.ErrArg)
		}
		for p := range 16 {
			refuseOffer(t, x, p, 5, p, api.ErrArg)
		}
		for _, page := range []int{math.MinInt, -1 << 35, -2, -1, lastPage + 1, lastPage + 2, 1 << 36, 1 << 52, math.MaxInt} {
			refuseOffer(t, x, 2, page, 3, api.ErrArg)
			refuseOffer(t, x, 0, page, 15, api.ErrArg)
			refuseOffer(t, x, 3, page, 3, api.ErrArg)
		}
	}
	refuseOffer(t, &full, 2, 0, 3, api.ErrBig)
	offer(t, &full, 3, 0, 2, false, 48)
}

// P14.1: the sixteenth grant of a process, the seventeenth, and the one behind a Revoke in the midst: it has the least number that is free.
func TestOfferFull(t *testing.T) {
	for _, from := range []int{0, 1, 7, 14, 15} {
		var x Table
		to := (from + 5) % 16
		first := 16 * from
		for i := range 16 {
			offer(t, &x, from, i, to, i%3 == 0, first+i)
		}
		refuseOffer(t, &x, from, 99, to, api.ErrBig)
		refuseOffer(t, &x, from, 99, (to+1)%16, api.ErrBig)
		offer(t, &x, to, 3, from, true, 16*to) // the other one has its own numbers
		wantOf(t, &x, from, sorted(first, 16, 16*to)...)
		for _, i := range []int{6, 0, 15, 9} {
			revoke(t, &x, first+i, from, Grant{From: from, Page: i, To: to, Write: i%3 == 0})
			offer(t, &x, from, 100+i, to, true, first+i)
			wantGet(t, &x, first+i, Grant{From: from, Page: 100 + i, To: to, Write: true})
			refuseOffer(t, &x, from, 99, to, api.ErrBig)
		}
		for _, i := range []int{11, 4, 13} {
			x.Revoke(first+i, from)
		}
		for _, i := range []int{4, 11, 13} {
			offer(t, &x, from, 200, to, false, first+i)
		}
		refuseOffer(t, &x, from, 99, to, api.ErrBig)
	}
}

// sorted: n numbers from one on, and others, rising.
func sorted(from, n int, more ...int) []int {
	for i := range n {
		more = append(more, from+i)
	}
	slices.Sort(more)
	return more
}

// P14.1: all 256 grants at once.
func TestOfferAll(t *testing.T) {
	var x Table
	for from := range 16 {
		for i := range 16 {
			offer(t, &x, from, i, (from+1)%16, true, 16*from+i)
		}
		refuseOffer(t, &x, from, 0, (from+1)%16, api.ErrBig)
	}
	for id := range 256 {
		accept(t, &x, id, (id/16+1)%16, id)
		wantGet(t, &x, id, Grant{From: id / 16, Page: id % 16, To: (id/16 + 1) % 16, Write: true, Taken: true, At: id})
	}
	wantNone(t, &x, odd...)
	wantOf(t, &x, 0, sorted(240, 16, sorted(0, 16)...)...)
	if gone := x.Clear(5); len(gone) != 32 || gone[0].From != 4 || gone[16].From != 5 {
		t.Errorf("Clear(5): %+v", gone)
	}
	offer(t, &x, 4, 0, 5, true, 64)
	refuseOffer(t, &x, 3, 0, 5, api.ErrBig)
}

// P14.1: the same page may be offered again and again, also to one process; a grant's being taken is its own.
func TestOfferSame(t *testing.T) {
	var x Table
	for i := range 3 {
		offer(t, &x, 1, 5, 2, false, 16+i)
	}
	offer(t, &x, 1, 5, 3, true, 19)
	offer(t, &x, 1, 6, 2, true, 20)
	accept(t, &x, 17, 2, 8)
	accept(t, &x, 19, 3, 8)
	accept(t, &x, 16, 2, 8) // where a space has the page is none of the table's concern
	wantLent(t, &x, 1, 5, 3)
	wantLent(t, &x, 1, 6, 0)
	wantLent(t, &x, 2, 8, 0)
	wantLent(t, &x, 2, 5, 0)
	wantGet(t, &x, 18, Grant{From: 1, Page: 5, To: 2})
	accept(t, &x, 20, 2, 5)
	wantLent(t, &x, 1, 5, 3)
	wantLent(t, &x, 1, 6, 1)
}

// P14.1: Get of numbers that no grant has, near those that are there and far from them.
func TestGet(t *testing.T) {
	var x Table
	offer(t, &x, 0, 0, 1, false, 0)
	offer(t, &x, 15, 0, 0, false, 240)
	for i := 1; i < 16; i++ {
		offer(t, &x, 15, i, 0, false, 240+i)
	}
	wantGet(t, &x, 0, Grant{To: 1})
	wantGet(t, &x, 255, Grant{From: 15, Page: 15})
	wantNone(t, &x, 1, 15, 16, 17, 239)
	wantNone(t, &x, odd...)
}

// P14.1: each error of Accept, in its order.
func TestAccept(t *testing.T) {
	for _, at := range []int{0, 1, 9, lastPage - 1, lastPage} {
		var x Table
		offer(t, &x, 2, 7, 3, true, 32)
		offer(t, &x, 2, 8, 4, false, 33)
		bad := []int{math.MinInt, -1 << 35, -1, lastPage + 1, lastPage + 2, 1 << 40, math.MaxInt}
		for _, wrong := range append(bad, at) {
			for _, who := range append([]int{0, 2, 4, 15}, strangers...) {
				refuseAccept(t, &x, 32, who, wrong, api.ErrNone)
			}
			for _, id := range append([]int{0, 3, 31, 33, 34, 48}, odd...) {
				refuseAccept(t, &x, id, 3, wrong, api.ErrNone)
			}
		}
		for _, wrong := range bad {
			refuseAccept(t, &x, 32, 3, wrong, api.ErrArg)
		}
		accept(t, &x, 32, 3, at)
		wantGet(t, &x, 32, Grant{From: 2, Page: 7, To: 3, Write: true, Taken: true, At: at})
		wantGet(t, &x, 33, Grant{From: 2, Page: 8, To: 4})
		for _, other := range append(bad, at, at+1) {
			refuseAccept(t, &x, 32, 3, other, api.ErrBusy)
			refuseAccept(t, &x, 32, 2, other, api.ErrNone)
			refuseAccept(t, &x, 32, 4, other, api.ErrNone)
		}
	}
}

// P14.1: Leave by each of the two and by a third one, taken or not; what was left may be taken again.
func TestLeave(t *testing.T) {
	var x Table
	offer(t, &x, 2, 7, 3, true, 32)
	was := Grant{From: 2, Page: 7, To: 3, Write: true}
	all := append([]int{0, 2, 3, 4, 15}, strangers...)
	for _, who := range all {
		refuseLeave(t, &x, 32, who)
	}
	for _, at := range []int{9, 0, lastPage} {
		accept(t, &x, 32, 3, at)
		wantLent(t, &x, 2, 7, 1)
		for _, who := range all {
			if who != 3 {
				refuseLeave(t, &x, 32, who)
			}
		}
		for _, id := range append([]int{0, 31, 33, 48}, odd...) {
			refuseLeave(t, &x, id, 3)
		}
		taken := was
		taken.Taken, taken.At = true, at
		leave(t, &x, 32, 3, taken)
		wantGet(t, &x, 32, was)
		wantLent(t, &x, 2, 7, 0)
		wantOf(t, &x, 3, 32)
		for _, who := range all {
			refuseLeave(t, &x, 32, who)
		}
	}
}

// P14.1: Revoke by each of the two and by a third one, taken or not.
func TestRevoke(t *testing.T) {
	for _, taken := range []bool{false, true} {
		var x Table
		offer(t, &x, 2, 7, 3, true, 32)
		offer(t, &x, 2, 7, 3, false, 33)
		was := Grant{From: 2, Page: 7, To: 3, Write: true}
		if taken {
			accept(t, &x, 32, 3, 9)
			was.Taken, was.At = true, 9
			wantLent(t, &x, 2, 7, 1)
		}
		for _, who := range append([]int{0, 3, 4, 15}, strangers...) {
			refuseRevoke(t, &x, 32, who)
		}
		for _, id := range append([]int{0, 31, 34, 48}, odd...) {
			refuseRevoke(t, &x, id, 2)
		}
		revoke(t, &x, 32, 2, was)
		wantNone(t, &x, 32)
		wantOf(t, &x, 2, 33)
		wantOf(t, &x, 3, 33)
		wantLent(t, &x, 2, 7, 0)
		refuseRevoke(t, &x, 32, 2)
		refuseLeave(t, &x, 32, 3)
		refuseAccept(t, &x, 32, 3, 9, api.ErrNone)
		offer(t, &x, 2, 1, 4, false, 32)
		wantGet(t, &x, 32, Grant{From: 2, Page: 1, To: 4}) // nothing of the one that was there
	}
}

// some: grants of several processes, some of them taken: 1 offers, 2 offers and takes, 3 takes, 0 and 15 likewise.
func some(t *testing.T) (*Table, map[int]Grant) {
	t.Helper()
	var x Table
	offer(t, &x, 2, 7, 3, true, 32)
	offer(t, &x, 1, 5, 2, false, 16)
	offer(t, &x, 1, 6, 3, true, 17)
	offer(t, &x, 2, 8, 0, false, 33)
	offer(t, &x, 15, 1, 2, true, 240)
	offer(t, &x, 0, 1, 15, true, 0)
	offer(t, &x, 15, 1, 0, false, 241)
	accept(t, &x, 32, 3, 4)
	accept(t, &x, 16, 2, 3)
	accept(t, &x, 241, 0, 2)
	return &x, map[int]Grant{
		0:   {From: 0, Page: 1, To: 15, Write: true},
		16:  {From: 1, Page: 5, To: 2, Taken: true, At: 3},
		17:  {From: 1, Page: 6, To: 3, Write: true},
		32:  {From: 2, Page: 7, To: 3, Write: true, Taken: true, At: 4},
		33:  {From: 2, Page: 8, To: 0},
		240: {From: 15, Page: 1, To: 2, Write: true},
		241: {From: 15, Page: 1, To: 0, Taken: true, At: 2},
	}
}

// P14.1: Of and Clear of processes that offer, that take, that do both, and neither, and of numbers that are no process.
func TestOfClear(t *testing.T) {
	of := map[int][]int{0: {0, 33, 241}, 1: {16, 17}, 2: {16, 32, 33, 240}, 3: {17, 32}, 15: {0, 240, 241}}
	for _, p := range append([]int{0, 1, 2, 3, 4, 5, 14, 15}, strangers...) {
		x, all := some(t)
		wantOf(t, x, p, of[p]...)
		var gone []Grant
		for _, id := range of[p] {
			gone = append(gone, all[id])
		}
		wantClear(t, x, p, gone...)
		wantNone(t, x, of[p]...)
		wantOf(t, x, p)
		for id, g := range all {
			if !slices.Contains(of[p], id) {
				wantGet(t, x, id, g)
			}
		}
		for q, ids := range of {
			wantOf(t, x, q, slices.DeleteFunc(slices.Clone(ids), func(id int) bool { return slices.Contains(of[p], id) })...)
		}
		wantClear(t, x, p)
	}
}

// P14.1: Lent behind each call.
func TestLent(t *testing.T) {
	var x Table
	lent := func(seven, eight int) {
		t.Helper()
		wantLent(t, &x, 2, 7, seven)
		wantLent(t, &x, 2, 8, eight)
		wantLent(t, &x, 3, 7, 0)
		wantLent(t, &x, 2, 1, 0)
		for _, n := range strangers {
			wantLent(t, &x, n, 7, 0)
			wantLent(t, &x, 2, n, 0)
		}
	}
	for i := range 4 {
		offer(t, &x, 2, 7, 3+i, true, 32+i)
		lent(0, 0)
	}
	offer(t, &x, 2, 8, 3, true, 36)
	for i := range 4 {
		accept(t, &x, 32+i, 3+i, 1)
		lent(i+1, 0)
	}
	accept(t, &x, 36, 3, 7)
	lent(4, 1)
	x.Accept(36, 3, 7)
	lent(4, 1)
	x.Leave(32, 3)
	lent(3, 1)
	x.Revoke(32, 2)
	lent(3, 1)
	x.Revoke(33, 2)
	lent(2, 1)
	x.Clear(3)
	lent(2, 0)
	x.Clear(5)
	lent(1, 0)
	x.Clear(2)
	lent(0, 0)
}

// P14.2: what was answered is the caller's own: it may be changed, and stays what it was.
func TestAnswersNew(t *testing.T) {
	x, all := some(t)
	told := tell(x)
	ids, again := x.Of(2), x.Of(2)
	for i := range ids {
		ids[i] = 99
	}
	_ = append(ids[:0], 1, 2, 3, 4, 5, 6, 7, 8)
	if !slices.Equal(again, []int{16, 32, 33, 240}) || tell(x) != told {
		t.Error("Of's answer is shared")
	}
	g, _ := x.Get(32)
	g.Taken, g.At = false, 77
	if tell(x) != told {
		t.Error("Get's answer is shared")
	}
	gone := x.Clear(2)
	told = tell(x)
	for i := range gone {
		gone[i].Page = -5
	}
	if tell(x) != told {
		t.Error("Clear's answer is shared")
	}
	other, _ := some(t)
	kept := other.Clear(2)
	for i := range 16 {
		offer(t, other, 2, 100+i, 4, true, 32+i)
	}
	other.Clear(2)
	if !slices.Equal(kept, []Grant{all[16], all[32], all[33], all[240]}) {
		t.Errorf("what Clear answered has changed: %+v", kept)
	}
}

// P14.2: tables have nothing to do with each other, a copy of one neither.
func TestTablesApart(t *testing.T) {
	x, _ := some(t)
	y, _ := some(t)
	copied := *x
	told := tell(x)
	y.Clear(2)
	offer(t, y, 4, 1, 5, true, 64)
	copied.Clear(15)
	offer(t, &copied, 1, 1, 5, true, 18)
	accept(t, &copied, 17, 3, 1)
	if tell(x) != told {
		t.Error("a table has changed with another one")
	}
	x.Clear(1)
	wantOf(t, &copied, 1, 16, 17, 18)
	wantLent(t, &copied, 1, 6, 1)
}
