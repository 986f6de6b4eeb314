package quota

import (
	"math"
	"math/rand"
	"slices"
	"testing"

	"demesne/api"
)

// odd: numbers of all kinds, of which most are no container.
var odd = []int{math.MinInt, math.MinInt + 1, -1 << 20, -65, -64, -2, -1, 0, 1, 2, 3, 7, 10, 11, 62, 63, 64, 65, 128, 1<<20 - 1, 1 << 20, 1<<20 + 1, 1 << 32, math.MaxInt - 1, math.MaxInt}

// tree: a root that may have so many.
func tree(t *testing.T, quota int) *Tree {
	t.Helper()
	x, e := New(quota)
	if x == nil || e != api.OK {
		t.Fatalf("New(%d) = %v, %d", quota, x, e)
	}
	return x
}

func child(t *testing.T, x *Tree, parent, quota, want int) {
	t.Helper()
	if i, e := x.Child(parent, quota); i != want || e != api.OK {
		t.Fatalf("Child(%d, %d) = %d, %d; want %d", parent, quota, i, e, want)
	}
}

// wantErrno: an answer is this error; the tree is as it was, if it is one.
func wantErrno(t *testing.T, x *Tree, before Tree, got, want api.Errno, what string, a, b int) {
	t.Helper()
	if got != want {
		t.Errorf("%s(%d, %d) = %d; want %d", what, a, b, got, want)
	}
	if want != api.OK && *x != before {
		t.Fatalf("%s(%d, %d) has changed containers", what, a, b)
	}
}

func refuseChild(t *testing.T, x *Tree, parent, quota int, want api.Errno) {
	t.Helper()
	before := *x
	i, e := x.Child(parent, quota)
	if i != 0 {
		t.Errorf("Child(%d, %d) = %d beside error %d", parent, quota, i, e)
	}
	wantErrno(t, x, before, e, want, "Child", parent, quota)
}

func charge(t *testing.T, x *Tree, i, n int, want api.Errno) {
	t.Helper()
	before := *x
	wantErrno(t, x, before, x.Charge(i, n), want, "Charge", i, n)
}

func credit(t *testing.T, x *Tree, i, n int, want api.Errno) {
	t.Helper()
	before := *x
	wantErrno(t, x, before, x.Credit(i, n), want, "Credit", i, n)
}

func end(t *testing.T, x *Tree, i int, want api.Errno) {
	t.Helper()
	before := *x
	wantErrno(t, x, before, x.End(i), want, "End", i, 0)
}

func wantNode(t *testing.T, x *Tree, i int, want Node) {
	t.Helper()
	want.Live = true
	if n, ok := x.Get(i); !ok || n != want {
		t.Errorf("Get(%d) = %+v, %v; want %+v", i, n, ok, want)
	}
	if room := want.Quota - want.Used - want.Lent; x.Room(i) != room {
		t.Errorf("Room(%d) = %d; want %d", i, x.Room(i), room)
	}
}

func wantNone(t *testing.T, x *Tree, i int) {
	t.Helper()
	if n, ok := x.Get(i); ok || n != (Node{}) {
		t.Errorf("Get(%d) = %+v, %v; want none", i, n, ok)
	}
	if x.Room(i) != 0 {
		t.Errorf("Room(%d) = %d; want 0", i, x.Room(i))
	}
}

func wantLive(t *testing.T, x *Tree, want ...int) {
	t.Helper()
	if got := x.Live(); !slices.Equal(got, want) {
		t.Errorf("Live() = %v; want %v", got, want)
	}
}

// P8.1: the chapter's example.
func TestExample(t *testing.T) {
	x := tree(t, 10)
	child(t, x, 0, 4, 1)
	charge(t, x, 1, 3, api.OK)
	charge(t, x, 1, 2, api.ErrQuota)
	charge(t, x, 0, 7, api.ErrQuota)
	end(t, x, 1, api.ErrBusy)
	credit(t, x, 1, 3, api.OK)
	end(t, x, 1, api.OK)
	if x.Room(0) != 10 {
		t.Errorf("Room(0) = %d", x.Room(0))
	}
}

// P8.1: New of 0 to 2^20, and of no other number.
func TestNew(t *testing.T) {
	for _, quota := range odd {
		if quota < 0 || quota > 1<<20 {
			if x, e := New(quota); x != nil || e != api.ErrArg {
				t.Errorf("New(%d) = %v, %d; want ErrArg", quota, x, e)
			}
			continue
		}
		x := tree(t, quota)
		wantNode(t, x, 0, Node{Parent: -1, Quota: quota})
		wantLive(t, x, 0)
		for _, i := range odd {
			if i != 0 {
				wantNone(t, x, i)
			}
		}
	}
}

// P8.1: Child's errors, and each of them beside those behind it.
func TestChildErrors(t *testing.T) {
	x := tree(t, 10)
	child(t, x, 0, 4, 1)
	charge(t, x, 1, 1, api.OK)
	for _, n := range odd {
		if n != 0 && n != 1 {
			refuseChild(t, x, n, 0, api.ErrNone)
			refuseChild(t, x, n, -1, api.ErrNone)
			refuseChild(t, x, n, math.MaxInt, api.ErrNone)
		}
		switch {
		case n < 0:
			refuseChild(t, x, 0, n, api.ErrArg)
			refuseChild(t, x, 1, n, api.ErrArg)
		case n > 3:
			refuseChild(t, x, 1, n, api.ErrQuota)
		}
	}
	refuseChild(t, x, 1, 4, api.ErrQuota)
	refuseChild(t, x, 0, 7, api.ErrQuota)
	child(t, x, 1, 3, 2)
	child(t, x, 0, 6, 3)
	refuseChild(t, x, 0, 1, api.ErrQuota)
	refuseChild(t, x, 1, 1, api.ErrQuota)
}

// P8.1: the 64th container is there, a 65th is not; that comes behind the other errors.
func TestChildBig(t *testing.T) {
	x := tree(t, 100)
	var all []int
	for i := 1; i < 64; i++ {
		child(t, x, (i-1)/2, min(i%2, x.Room((i-1)/2)), i)
		all = append(all, i-1)
	}
	wantLive(t, x, append(all, 63)...)
	refuseChild(t, x, 0, 0, api.ErrBig)
	refuseChild(t, x, 0, 1, api.ErrBig)
	refuseChild(t, x, 63, 0, api.ErrBig)
	refuseChild(t, x, 64, 0, api.ErrNone)
	refuseChild(t, x, -1, 0, api.ErrNone)
	refuseChild(t, x, 0, -1, api.ErrArg)
	refuseChild(t, x, 0, 101, api.ErrQuota)
	end(t, x, 40, api.OK)
	child(t, x, 63, 0, 40)
	refuseChild(t, x, 0, 0, api.ErrBig)
}

// P8.1: a number is used again behind End, the least one first, and nothing of what was there shows.
func TestNumbersAgain(t *testing.T) {
	x := tree(t, 10)
	child(t, x, 0, 1, 1)
	child(t, x, 0, 2, 2)
	child(t, x, 0, 3, 3)
	child(t, x, 2, 1, 4)
	end(t, x, 3, api.OK)
	end(t, x, 1, api.OK)
	wantLive(t, x, 0, 2, 4)
	wantNone(t, x, 1)
	wantNone(t, x, 3)
	for _, n := range []int{-1, 0, 1} {
		charge(t, x, 1, n, api.ErrNone)
		credit(t, x, 1, n, api.ErrNone)
		refuseChild(t, x, 1, n, api.ErrNone)
	}
	end(t, x, 1, api.ErrNone)
	child(t, x, 4, 1, 1)
	wantNode(t, x, 1, Node{Parent: 4, Quota: 1})
	child(t, x, 0, 0, 3)
	wantNode(t, x, 3, Node{})
	child(t, x, 0, 0, 5)
	wantLive(t, x, 0, 1, 2, 3, 4, 5)
}

// P8.1: Charge's errors, alone and beside each other; up to the room, and no further.
func TestCharge(t *testing.T) {
	x := tree(t, 10)
	child(t, x, 0, 4, 1)
	for _, n := range odd {
		for _, i := range odd {
			if i != 0 && i != 1 {
				charge(t, x, i, n, api.ErrNone)
			}
		}
		switch {
		case n < 0:
			charge(t, x, 0, n, api.ErrArg)
			charge(t, x, 1, n, api.ErrArg)
		case n > 6:
			charge(t, x, 0, n, api.ErrQuota)
			charge(t, x, 1, n, api.ErrQuota)
		}
	}
	charge(t, x, 1, 5, api.ErrQuota)
	charge(t, x, 0, 7, api.ErrQuota)
	charge(t, x, 0, 6, api.OK)
	charge(t, x, 1, 1, api.OK)
	charge(t, x, 1, 3, api.OK)
	wantNode(t, x, 0, Node{Parent: -1, Quota: 10, Used: 6, Lent: 4})
	wantNode(t, x, 1, Node{Quota: 4, Used: 4})
	charge(t, x, 0, 1, api.ErrQuota)
	charge(t, x, 1, 1, api.ErrQuota)
	charge(t, x, 1, math.MaxInt, api.ErrQuota)
}

// P8.1: 0 frames may always be charged and credited, where there is a container.
func TestZeroFrames(t *testing.T) {
	x := tree(t, 0)
	charge(t, x, 0, 0, api.OK)
	credit(t, x, 0, 0, api.OK)
	charge(t, x, 0, 1, api.ErrQuota)
	credit(t, x, 0, 1, api.ErrArg)
	child(t, x, 0, 0, 1)
	charge(t, x, 1, 0, api.OK)
	credit(t, x, 1, 0, api.OK)
	charge(t, x, 1, 1, api.ErrQuota)
	refuseChild(t, x, 1, 1, api.ErrQuota)
	wantNode(t, x, 0, Node{Parent: -1})
	wantNode(t, x, 1, Node{})
}

// P8.1: Credit's errors; down to nothing, and no further.
func TestCredit(t *testing.T) {
	x := tree(t, 10)
	child(t, x, 0, 4, 1)
	charge(t, x, 0, 5, api.OK)
	charge(t, x, 1, 3, api.OK)
	for _, n := range odd {
		for _, i := range odd {
			if i != 0 && i != 1 {
				credit(t, x, i, n, api.ErrNone)
			}
		}
		if n < 0 || n > 5 {
			credit(t, x, 0, n, api.ErrArg)
			credit(t, x, 1, n, api.ErrArg)
		}
	}
	credit(t, x, 1, 4, api.ErrArg)
	credit(t, x, 1, 2, api.OK)
	credit(t, x, 1, 2, api.ErrArg)
	credit(t, x, 1, 1, api.OK)
	credit(t, x, 1, 1, api.ErrArg)
	credit(t, x, 0, 5, api.OK)
	wantNode(t, x, 0, Node{Parent: -1, Quota: 10, Lent: 4})
	wantNode(t, x, 1, Node{Quota: 4})
}

// P8.1: End of none and of the root; of one with frames, with children, with children that may have nothing.
func TestEnd(t *testing.T) {
	x := tree(t, 10)
	for _, i := range odd {
		end(t, x, i, api.ErrNone)
	}
	child(t, x, 0, 4, 1)
	charge(t, x, 0, 1, api.OK)
	for _, i := range odd {
		if i != 1 {
			end(t, x, i, api.ErrNone)
		}
	}
	charge(t, x, 1, 1, api.OK)
	end(t, x, 1, api.ErrBusy)
	child(t, x, 1, 0, 2)
	end(t, x, 1, api.ErrBusy)
	credit(t, x, 1, 1, api.OK)
	end(t, x, 1, api.ErrBusy)
	end(t, x, 2, api.OK)
	child(t, x, 1, 4, 2)
	end(t, x, 1, api.ErrBusy)
	end(t, x, 2, api.OK)
	wantNode(t, x, 1, Node{Quota: 4})
	end(t, x, 1, api.OK)
	wantNode(t, x, 0, Node{Parent: -1, Quota: 10, Used: 1})
	wantLive(t, x, 0)
	end(t, x, 1, api.ErrNone)
}

// P8.2: a row of containers, each the child of the one ahead of it: what one lends, it can't have; what goes back goes to its parent.
func TestRow(t *testing.T) {
	x := tree(t, 63)
	for i := 1; i < 64; i++ {
		child(t, x, i-1, 63-i, i)
		charge(t, x, i-1, 2, api.ErrQuota)
		charge(t, x, i-1, 1, api.OK)
		charge(t, x, i-1, 1, api.ErrQuota)
		wantNode(t, x, i-1, Node{Parent: i - 2, Quota: 64 - i, Used: 1, Lent: 63 - i})
	}
	for i := 63; i > 0; i-- {
		end(t, x, i-1, map[bool]api.Errno{true: api.ErrNone, false: api.ErrBusy}[i == 1])
		if i < 63 {
			end(t, x, i, api.ErrBusy)
			credit(t, x, i, 1, api.OK)
		}
		end(t, x, i, api.OK)
		wantNode(t, x, i-1, Node{Parent: i - 2, Quota: 64 - i, Used: 1})
	}
	credit(t, x, 0, 1, api.OK)
	if x.Room(0) != 63 {
		t.Errorf("P8.3: Room(0) = %d", x.Room(0))
	}
}

// P8.1: the greatest quota, lent and had as a whole.
func TestGreatest(t *testing.T) {
	x := tree(t, 1<<20)
	refuseChild(t, x, 0, 1<<20+1, api.ErrQuota)
	child(t, x, 0, 1<<20, 1)
	charge(t, x, 1, 1<<20+1, api.ErrQuota)
	charge(t, x, 1, 1<<20, api.OK)
	charge(t, x, 0, 1, api.ErrQuota)
	wantNode(t, x, 1, Node{Quota: 1 << 20, Used: 1 << 20})
}

// P2 (K3): a list and a Node are the receiver's own; trees are apart.
func TestNobodyElses(t *testing.T) {
	x, y := tree(t, 10), tree(t, 10)
	child(t, x, 0, 4, 1)
	wantLive(t, y, 0)
	all := x.Live()
	all[0], all[1] = 7, 8
	_ = append(all[:0], 9)
	wantLive(t, x, 0, 1)
	n, _ := x.Get(1)
	n.Quota, n.Live = 9, false
	wantNode(t, x, 1, Node{Quota: 4})
	kept := x.Live()
	end(t, x, 1, api.OK)
	if !slices.Equal(kept, []int{0, 1}) {
		t.Errorf("a list that was answered has changed: %v", kept)
	}
}

// model keeps containers in a map, and works out what is lent each time.
type model map[int]Node

func (m model) get(i int) (Node, bool) {
	n, ok := m[i]
	for _, c := range m {
		if ok && c.Parent == i {
			n.Lent += c.Quota
		}
	}
	return n, ok
}

func (m model) use(i, n int) api.Errno {
	box, ok := m.get(i)
	if !ok {
		return api.ErrNone
	} else if n < 0 {
		return api.ErrArg
	} else if n > box.Quota-box.Used-box.Lent {
		return api.ErrQuota
	}
	return api.OK
}

func (m model) add(i, n int) {
	box := m[i]
	box.Used += n
	m[i] = box
}

func (m model) child(parent, quota int) (int, api.Errno) {
	if e := m.use(parent, quota); e != api.OK {
		return 0, e
	}
	if len(m) == 64 {
		return 0, api.ErrBig
	}
	i := 0
	for m[i].Live {
		i++
	}
	m[i] = Node{Parent: parent, Quota: quota, Live: true}
	return i, api.OK
}

func (m model) charge(i, n int) api.Errno {
	e := m.use(i, n)
	if e == api.OK {
		m.add(i, n)
	}
	return e
}

func (m model) credit(i, n int) api.Errno {
	if !m[i].Live {
		return api.ErrNone
	} else if n < 0 || n > m[i].Used {
		return api.ErrArg
	}
	m.add(i, -n)
	return api.OK
}

func (m model) end(i int) api.Errno {
	if !m[i].Live || i == 0 {
		return api.ErrNone
	}
	for _, c := range m {
		if m[i].Used > 0 || c.Parent == i {
			return api.ErrBusy
		}
	}
	delete(m, i)
	return api.OK
}

// wantModel: the tree is as the model; none has more than its Quota (P8.2).
func wantModel(t *testing.T, x *Tree, m model) {
	t.Helper()
	var live []int
	for i := -1; i <= 64; i++ {
		n, ok := m.get(i)
		if !ok {
			wantNone(t, x, i)
			continue
		}
		wantNode(t, x, i, n)
		live = append(live, i)
		if n.Used < 0 || n.Used+n.Lent > n.Quota {
			t.Fatalf("container %d has too many: %+v", i, n)
		}
	}
	wantLive(t, x, live...)
}

// P8.1, P8.2, P8.3: any calls, beside the model; at the end all children go.
func TestModel(t *testing.T) {
	rnd := rand.New(rand.NewSource(81))
	for range 40 {
		quota := rnd.Intn(1 << rnd.Intn(21))
		x, m := tree(t, quota), model{0: {Parent: -1, Quota: quota, Live: true}}
		most := 3 + rnd.Intn(64)
		for range 400 {
			i, n := rnd.Intn(most)-1, rnd.Intn(1+x.Room(0)/2+2)-1
			if rnd.Intn(8) == 0 {
				n = odd[rnd.Intn(len(odd))]
			}
			var e, want api.Errno
			switch rnd.Intn(8) {
			case 0, 1, 2:
				var got, number int
				got, e = x.Child(i, n)
				number, want = m.child(i, n)
				if got != number {
					t.Fatalf("Child(%d, %d) = %d; want %d", i, n, got, number)
				}
			case 3, 4:
				e, want = x.Charge(i, n), m.charge(i, n)
			case 5, 6:
				e, want = x.Credit(i, n), m.credit(i, n)
			default:
				e, want = x.End(i), m.end(i)
			}
			if e != want {
				t.Fatalf("of %d and %d: %d; want %d", i, n, e, want)
			}
			wantModel(t, x, m)
		}
		wantAllGone(t, x, quota)
	}
}

// wantAllGone: everything goes, a container as soon as it has no children; then the root's room is its Quota.
func wantAllGone(t *testing.T, x *Tree, quota int) {
	t.Helper()
	for range 64 { // a row of 64 is the deepest tree
		for _, i := range x.Live() {
			n, _ := x.Get(i)
			credit(t, x, i, n.Used, api.OK)
			x.End(i)
		}
	}
	root, _ := x.Get(0)
	credit(t, x, 0, root.Used, api.OK)
	if x.Room(0) != quota {
		t.Errorf("Room(0) = %d; want %d", x.Room(0), quota)
	}
	wantNode(t, x, 0, Node{Parent: -1, Quota: quota})
}
