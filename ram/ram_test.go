package ram

import (
	"math"
	"math/rand"
	"slices"
	"testing"

	"demesne/api"
)

func mustNew(t *testing.T, frames int, holes ...api.Range) *RAM {
	t.Helper()
	r, e := New(frames, holes)
	if e != api.OK || r == nil {
		t.Fatalf("New(%d, %v): %v, %d", frames, holes, r, e)
	}
	return r
}

func wantLoad(t *testing.T, r *RAM, addr uint64, size int, want uint64) {
	t.Helper()
	if x, e := r.Load(addr, size); x != want || e != api.OK {
		t.Errorf("Load(%#x, %d) = %#x, %d; want %#x, OK", addr, size, x, e, want)
	}
}

func wantLoadError(t *testing.T, r *RAM, addr uint64, size int, want api.Errno) {
	t.Helper()
	if x, e := r.Load(addr, size); x != 0 || e != want {
		t.Errorf("Load(%#x, %d) = %#x, %d; want 0, %d", addr, size, x, e, want)
	}
}

func wantStore(t *testing.T, r *RAM, addr uint64, size int, x uint64, want api.Errno) {
	t.Helper()
	if e := r.Store(addr, size, x); e != want {
		t.Errorf("Store(%#x, %d, %#x) = %d; want %d", addr, size, x, e, want)
	}
}

// P1.1: New's errors, and which of several is answered.
func TestNewErrors(t *testing.T) {
	many := make([]api.Range, api.MaxRanges+1)
	bad := []api.Range{{From: 2, To: 1}}
	manyBad := append(slices.Clone(many), bad...)
	for _, x := range []struct {
		name   string
		frames int
		holes  []api.Range
		want   api.Errno
	}{
		{"no frame", 0, nil, api.ErrArg},
		{"below 0", -1, nil, api.ErrArg},
		{"least", math.MinInt, nil, api.ErrArg},
		{"no frame, many holes in no form", 0, manyBad, api.ErrArg},
		{"one frame", 1, nil, api.OK},
		{"most frames", api.MaxFrames, nil, api.OK},
		{"one too many", api.MaxFrames + 1, nil, api.ErrBig},
		{"greatest", math.MaxInt, nil, api.ErrBig},
		{"too many, a hole in no form", api.MaxFrames + 1, bad, api.ErrBig},
		{"most holes", 4, many[:api.MaxRanges], api.OK},
		{"one hole too many", 4, many, api.ErrBig},
		{"many holes, one in no form", 4, manyBad, api.ErrBig},
		{"from behind to", 4, bad, api.ErrForm},
		{"from below 0", 4, []api.Range{{From: -1, To: 1}}, api.ErrForm},
		{"to above frames", 4, []api.Range{{From: 3, To: 5}}, api.ErrForm},
		{"a second hole in no form", 4, []api.Range{{From: 0, To: 1}, {From: 5, To: 5}}, api.ErrForm},
		{"all of it", 4, []api.Range{{From: 0, To: 4}}, api.OK},
		{"empty at the end", 4, []api.Range{{From: 4, To: 4}}, api.OK},
		{"holes that overlap", 4, []api.Range{{From: 0, To: 3}, {From: 1, To: 4}}, api.OK},
	} {
		r, e := New(x.frames, x.holes)
		if e != x.want || (r != nil) != (e == api.OK) {
			t.Errorf("%s: %v, %d; want error %d", x.name, r, e, x.want)
		}
		if r != nil && r.Frames() != x.frames {
			t.Errorf("%s: Frames() = %d; want %d", x.name, r.Frames(), x.frames)
		}
	}
}

// P1.1: holes go from From on, below To.
func TestHas(t *testing.T) {
	r := mustNew(t, 8, api.Range{From: 1, To: 3}, api.Range{From: 2, To: 4}, api.Range{From: 5, To: 5}, api.Range{From: 7, To: 8})
	want := []bool{true, false, false, false, true, true, true, false}
	for frame, there := range want {
		if r.Has(frame) != there {
			t.Errorf("Has(%d) = %t", frame, !there)
		}
	}
	for _, frame := range []int{-1, 8, 9, math.MinInt, math.MaxInt} {
		if r.Has(frame) {
			t.Errorf("Has(%d)", frame)
		}
	}
	if r.Frames() != 8 {
		t.Errorf("Frames() = %d: holes count too", r.Frames())
	}
}

// P1.1, example 1.
func TestExample(t *testing.T) {
	r := mustNew(t, 2)
	wantStore(t, r, 4094, 4, 0x11223344, api.OK)
	wantLoad(t, r, 4094, 2, 0x3344)
	wantLoad(t, r, 4096, 2, 0x1122)
	r = mustNew(t, 2, api.Range{From: 1, To: 2})
	wantStore(t, r, 4094, 4, 0x11223344, api.ErrBus)
	wantLoad(t, r, 4094, 2, 0)
	wantLoadError(t, r, 0, 3, api.ErrArg)
}

// P1.1: the errors of Load and Store, in their order.
func TestAccessErrors(t *testing.T) {
	r := mustNew(t, 4, api.Range{From: 1, To: 2})
	const end = 4 * api.PageSize
	for _, x := range []struct {
		addr uint64
		size int
		want api.Errno
	}{
		{0, 0, api.ErrArg},
		{0, -1, api.ErrArg},
		{0, 3, api.ErrArg},
		{0, 5, api.ErrArg},
		{0, 7, api.ErrArg},
		{0, 16, api.ErrArg},
		{0, math.MaxInt, api.ErrArg},
		{0, math.MinInt, api.ErrArg},
		{math.MaxUint64, 3, api.ErrArg},
		{4096, 6, api.ErrArg},
		{4095, 1, api.OK},
		{4096, 1, api.ErrBus},
		{4088, 8, api.OK},
		{4089, 8, api.ErrBus},
		{8191, 1, api.ErrBus},
		{8191, 2, api.ErrBus},
		{8192, 8, api.OK},
		{8188, 8, api.ErrBus},
		{end - 8, 8, api.OK},
		{end - 7, 8, api.ErrBus},
		{end - 1, 1, api.OK},
		{end, 1, api.ErrBus},
		{1 << 32, 8, api.ErrBus},
		{1 << 44, 8, api.ErrBus},
		{1 << 63, 8, api.ErrBus},
		{math.MaxUint64, 1, api.ErrBus},
		{math.MaxUint64 - 7, 8, api.ErrBus},
		{math.MaxUint64 - 6, 8, api.ErrBus}, // goes round to byte 0, which is there
		{math.MaxUint64, 2, api.ErrBus},
	} {
		if e := r.Store(x.addr, x.size, math.MaxUint64); e != x.want {
			t.Errorf("Store(%#x, %d) = %d; want %d", x.addr, x.size, e, x.want)
		}
		y, e := r.Load(x.addr, x.size)
		if e != x.want || e != api.OK && y != 0 {
			t.Errorf("Load(%#x, %d) = %#x, %d; want %d", x.addr, x.size, y, e, x.want)
		}
	}
}

// P1.2: all bytes are 0 at first; the lowest byte stands first, and only the lowest size bytes are stored.
func TestStoreSizes(t *testing.T) {
	for _, size := range []int{1, 2, 4, 8} {
		for _, addr := range []uint64{0, 9, 4095, 4093, 4089, 8184} {
			r := mustNew(t, 4)
			wantLoad(t, r, addr, size, 0)
			const x = 0x8877665544332211
			wantStore(t, r, addr, size, x, api.OK)
			mask := uint64(math.MaxUint64) >> (64 - 8*size)
			wantLoad(t, r, addr, size, x&mask)
			for i := range size {
				wantLoad(t, r, addr+uint64(i), 1, uint64(0x11*(i+1)))
			}
			if addr > 0 {
				wantLoad(t, r, addr-1, 1, 0)
			}
			wantLoad(t, r, addr+uint64(size), 1, 0)
		}
	}
}

// P1.2: a refused store changes nothing, not even the bytes that are there.
func TestRefusedStore(t *testing.T) {
	r := mustNew(t, 4, api.Range{From: 1, To: 2})
	before := uint64(0x0102030405060708)
	for _, addr := range []uint64{4088, 8192, 4*api.PageSize - 8, 0} {
		wantStore(t, r, addr, 8, before, api.OK)
	}
	wantStore(t, r, 4090, 8, math.MaxUint64, api.ErrBus)
	wantStore(t, r, 8190, 8, math.MaxUint64, api.ErrBus)
	wantStore(t, r, 4*api.PageSize-4, 8, math.MaxUint64, api.ErrBus)
	wantStore(t, r, math.MaxUint64-3, 8, math.MaxUint64, api.ErrBus)
	wantStore(t, r, 0, 3, math.MaxUint64, api.ErrArg)
	for _, addr := range []uint64{4088, 8192, 4*api.PageSize - 8, 0} {
		wantLoad(t, r, addr, 8, before)
	}
	if !r.Clear(1) {
		t.Error("a hole was written")
	}
}

// P1.1: Zero, Copy and Clear, and their errors.
func TestFrames(t *testing.T) {
	r := mustNew(t, 4, api.Range{From: 3, To: 4})
	wantStore(t, r, 4095, 2, 0x0201, api.OK)
	if r.Clear(0) || r.Clear(1) || !r.Clear(2) {
		t.Error("Clear behind a store across frames 0 and 1")
	}
	for _, bad := range []int{-1, 3, 4, math.MinInt, math.MaxInt} {
		if e := r.Zero(bad); e != api.ErrBus {
			t.Errorf("Zero(%d) = %d", bad, e)
		}
		if e := r.Copy(bad, 0); e != api.ErrBus {
			t.Errorf("Copy(%d, 0) = %d", bad, e)
		}
		if e := r.Copy(0, bad); e != api.ErrBus {
			t.Errorf("Copy(0, %d) = %d", bad, e)
		}
		if e := r.Copy(bad, bad); e != api.ErrBus {
			t.Errorf("Copy(%d, %d) = %d", bad, bad, e)
		}
		if !r.Clear(bad) {
			t.Errorf("Clear(%d) = false", bad)
		}
	}
	wantLoad(t, r, 4095, 2, 0x0201)
	if e := r.Zero(0); e != api.OK || !r.Clear(0) || r.Clear(1) {
		t.Errorf("Zero(0) = %d", e)
	}
	wantLoad(t, r, 4095, 2, 0x0200)
	wantStore(t, r, 4096, 1, 0, api.OK)
	if !r.Clear(1) {
		t.Error("frame 1 was written, but has no byte but 0")
	}
}

// P1.2: a copy stays when its frame changes, and the frame when its copy does.
func TestCopyStays(t *testing.T) {
	r := mustNew(t, 3)
	wantStore(t, r, 16, 8, 111, api.OK)
	if e := r.Copy(1, 0); e != api.OK {
		t.Fatalf("Copy: %d", e)
	}
	wantLoad(t, r, 4096+16, 8, 111)
	wantStore(t, r, 16, 8, 222, api.OK)
	wantLoad(t, r, 4096+16, 8, 111)
	wantStore(t, r, 4096+24, 8, 333, api.OK)
	wantLoad(t, r, 24, 8, 0)
	r.Zero(0)
	wantLoad(t, r, 4096+16, 8, 111)
	if e := r.Copy(1, 1); e != api.OK {
		t.Errorf("onto itself: %d", e)
	}
	wantLoad(t, r, 4096+16, 8, 111)
	if e := r.Copy(1, 2); e != api.OK || !r.Clear(1) {
		t.Errorf("of a frame that was never written: %d", e)
	}
	wantStore(t, r, 4096, 1, 5, api.OK)
	if !r.Clear(2) {
		t.Error("a store to a copy of a clear frame shows in that one")
	}
}

// P1.3, K3: the holes that were handed in aren't changed and aren't kept.
func TestHolesAreNotKept(t *testing.T) {
	room := []api.Range{{From: 1, To: 2}, {From: 0, To: 4}, {From: 3, To: 4}}
	want := slices.Clone(room)
	r := mustNew(t, 4, room[:1]...)
	if !slices.Equal(room, want) {
		t.Errorf("changed: %v", room)
	}
	room[0] = api.Range{From: 2, To: 3}
	if r.Has(1) || !r.Has(2) || !r.Has(3) {
		t.Error("what was handed in is kept")
	}
}

// P1.3: what is done to one memory doesn't show in another one.
func TestNobodyElses(t *testing.T) {
	a, b := mustNew(t, 2), mustNew(t, 2)
	wantStore(t, a, 0, 8, 1, api.OK)
	wantLoad(t, b, 0, 8, 0)
	wantStore(t, b, 4096, 8, 2, api.OK)
	wantLoad(t, a, 4096, 8, 0)
	b.Zero(0)
	wantLoad(t, a, 0, 8, 1)
	a.Copy(1, 0)
	wantLoad(t, b, 4096, 8, 2)
}

// K1: no holes, as nil and as an empty list.
func TestNilHoles(t *testing.T) {
	for _, holes := range [][]api.Range{nil, {}} {
		if r, e := New(1, holes); e != api.OK || !r.Has(0) {
			t.Errorf("New(1, %#v): %d", holes, e)
		}
	}
}

// plain is a memory as one list of bytes.
type plain struct {
	bytes []byte
	there []bool
}

func (p *plain) has(frame int) bool {
	return frame >= 0 && frame < len(p.there) && p.there[frame]
}

func (p *plain) error(addr uint64, size int) api.Errno {
	if size != 1 && size != 2 && size != 4 && size != 8 {
		return api.ErrArg
	}
	for i := range uint64(size) {
		if addr > math.MaxUint64-i || addr+i >= uint64(len(p.bytes)) || !p.there[(addr+i)/4096] {
			return api.ErrBus
		}
	}
	return api.OK
}

func (p *plain) load(addr uint64, size int) (uint64, api.Errno) {
	e := p.error(addr, size)
	if e != api.OK {
		return 0, e
	}
	x := uint64(0)
	for i := size - 1; i >= 0; i-- {
		x = x<<8 + uint64(p.bytes[addr+uint64(i)])
	}
	return x, e
}

func (p *plain) store(addr uint64, size int, x uint64) api.Errno {
	e := p.error(addr, size)
	for i := 0; e == api.OK && i < size; i++ {
		p.bytes[addr+uint64(i)] = byte(x)
		x >>= 8
	}
	return e
}

func (p *plain) frame(n int) []byte {
	return p.bytes[n*4096 : (n+1)*4096]
}

func (p *plain) copy(to, from int) api.Errno {
	if !p.has(to) || !p.has(from) {
		return api.ErrBus
	}
	copy(p.frame(to), p.frame(from))
	return api.OK
}

func (p *plain) zero(n int) api.Errno {
	if !p.has(n) {
		return api.ErrBus
	}
	clear(p.frame(n))
	return api.OK
}

func (p *plain) clear(n int) bool {
	return !p.has(n) || !slices.ContainsFunc(p.frame(n), func(b byte) bool { return b != 0 })
}

// edge is an address at or near the seam of two frames, more often than not.
func edge(rnd *rand.Rand, frames int) uint64 {
	switch rnd.Intn(8) {
	case 0:
		return uint64(rnd.Intn((frames + 1) * 4096))
	case 1:
		return math.MaxUint64 - uint64(rnd.Intn(9))
	}
	return uint64(rnd.Intn(frames+1))*4096 + uint64(rnd.Intn(20)) - 10
}

func step(t *testing.T, rnd *rand.Rand, r *RAM, p *plain) {
	frames := len(p.there)
	size := []int{1, 2, 4, 8, 8, 8, 3}[rnd.Intn(7)]
	addr, x := edge(rnd, frames), rnd.Uint64()
	a, b := rnd.Intn(frames+2)-1, rnd.Intn(frames+2)-1
	switch rnd.Intn(8) {
	case 0:
		if got, want := r.Zero(a), p.zero(a); got != want {
			t.Fatalf("Zero(%d) = %d; want %d", a, got, want)
		}
	case 1:
		if got, want := r.Copy(a, b), p.copy(a, b); got != want {
			t.Fatalf("Copy(%d, %d) = %d; want %d", a, b, got, want)
		}
	case 2:
		if got, want := r.Clear(a), p.clear(a); got != want {
			t.Fatalf("Clear(%d) = %t", a, got)
		}
	case 3:
		if got, want := r.Has(a), p.has(a); got != want {
			t.Fatalf("Has(%d) = %t", a, got)
		}
	case 4:
		x = 0
		fallthrough
	case 5, 6:
		if got, want := r.Store(addr, size, x), p.store(addr, size, x); got != want {
			t.Fatalf("Store(%#x, %d, %#x) = %d; want %d", addr, size, x, got, want)
		}
	default:
		got, e := r.Load(addr, size)
		if want, f := p.load(addr, size); got != want || e != f {
			t.Fatalf("Load(%#x, %d) = %#x, %d; want %#x, %d", addr, size, got, e, want, f)
		}
	}
}

// P1.1, P1.2, P1.3: any calls of two memories, beside plain lists of bytes.
func TestBesidePlainBytes(t *testing.T) {
	for seed := range int64(40) {
		rnd := rand.New(rand.NewSource(seed))
		var rams []*RAM
		var plains []*plain
		for range 2 {
			frames := 1 + rnd.Intn(6)
			p := &plain{make([]byte, frames*4096), make([]bool, frames)}
			var holes []api.Range
			for n := range p.there {
				if p.there[n] = rnd.Intn(5) > 0; !p.there[n] {
					holes = append(holes, api.Range{From: n, To: n + 1})
				}
			}
			rams, plains = append(rams, mustNew(t, frames, holes...)), append(plains, p)
		}
		for range 1000 {
			i := rnd.Intn(2)
			step(t, rnd, rams[i], plains[i])
		}
		for i, p := range plains {
			for addr := range uint64(len(p.bytes)) {
				if want, e := p.load(addr, 1); e == api.OK {
					wantLoad(t, rams[i], addr, 1, want)
				}
			}
		}
	}
}

// P1.2, P1.3: the last frame of the greatest memory is as good as any.
func TestGreatestMemory(t *testing.T) {
	r := mustNew(t, api.MaxFrames)
	last := uint64(api.MaxFrames)*api.PageSize - 8
	wantStore(t, r, last, 8, 77, api.OK)
	wantLoad(t, r, last, 8, 77)
	wantLoadError(t, r, last+1, 8, api.ErrBus)
	if r.Clear(api.MaxFrames-1) || r.Zero(api.MaxFrames-1) != api.OK || !r.Clear(api.MaxFrames-1) {
		t.Error("the last frame")
	}
}
