package pte

import (
	"math"
	"math/rand"
	"testing"

	"demesne/api"
)

// named: each flag alone, beside the bit that the document gives it.
var named = []struct {
	name string
	bit  int
	e    Entry
}{
	{"Present", 0, Entry{Present: true}},
	{"Write", 1, Entry{Write: true}},
	{"User", 2, Entry{User: true}},
	{"Accessed", 5, Entry{Accessed: true}},
	{"Dirty", 6, Entry{Dirty: true}},
	{"Large", 7, Entry{Large: true}},
	{"Global", 8, Entry{Global: true}},
	{"NoExec", 63, Entry{NoExec: true}},
}

// says is all the bits that say something.
const says = 0x80000000fffff1e7

func wantPack(t *testing.T, e Entry, want uint64) {
	t.Helper()
	if x, err := Pack(e); x != want || err != api.OK {
		t.Errorf("Pack(%+v) = %#x, %d; want %#x, OK", e, x, err, want)
	}
}

// P3.1: each flag has its bit, there and back.
func TestFlags(t *testing.T) {
	for _, x := range named {
		wantPack(t, x.e, 1<<x.bit)
		if e := Unpack(1 << x.bit); e != x.e {
			t.Errorf("Unpack of %s's bit: %+v", x.name, e)
		}
	}
	all := Entry{true, true, true, true, true, true, true, true, api.MaxFrames - 1}
	wantPack(t, all, says)
	if e := Unpack(math.MaxUint64); e != all {
		t.Errorf("Unpack of all bits: %+v", e)
	}
	wantPack(t, Entry{}, 0)
	if e := Unpack(0); e != (Entry{}) {
		t.Errorf("Unpack(0): %+v", e)
	}
}

// P3.1: a frame outside its range is refused, with 0 beside the error.
func TestPackFrame(t *testing.T) {
	wantPack(t, Entry{Present: true, Write: true, Frame: 5}, 0x5003)
	wantPack(t, Entry{Frame: 1}, 0x1000)
	wantPack(t, Entry{Frame: 1<<20 - 1}, 0xfffff000)
	for _, frame := range []int{-1, math.MinInt, 1 << 20, 1<<20 + 1, 1 << 32, math.MaxInt} {
		if x, err := Pack(Entry{Present: true, NoExec: true, Frame: frame}); x != 0 || err != api.ErrArg {
			t.Errorf("Pack with frame %d: %#x, %d; want 0, ErrArg", frame, x, err)
		}
	}
}

// P3.1: bits that say nothing are neither told nor packed.
func TestSilentBits(t *testing.T) {
	for bit := range 64 {
		x := uint64(1) << bit
		if says&x != 0 {
			continue
		}
		if e := Unpack(x); e != (Entry{}) {
			t.Errorf("Unpack(%#x) = %+v", x, e)
		}
	}
	for bit := range 20 {
		if e := Unpack(1 << (12 + bit)); e != (Entry{Frame: 1 << bit}) {
			t.Errorf("bit %d: %+v", 12+bit, e)
		}
	}
}

// P3.1: there and back, of any entry and of any number.
func TestPackThereAndBack(t *testing.T) {
	rnd := rand.New(rand.NewSource(31))
	for range 20000 {
		x := rnd.Uint64()
		e := Unpack(x)
		wantPack(t, e, x&says)
		if again := Unpack(x & says); again != e {
			t.Fatalf("Unpack(%#x) = %+v; without silent bits %+v", x, e, again)
		}
	}
}

// barred: may a bit not be set, in a present entry of that level which has bit 7 (large)?
func barred(bit, level int, large bool) bool {
	switch {
	case bit >= 32 && bit <= 51:
		return true
	case bit == 7:
		return level >= 3
	case bit >= 12 && bit <= 20:
		return level == 2 && large
	}
	return false
}

// P3.2: each bit in each level; levels beyond the ends are as the ends.
func TestReservedBits(t *testing.T) {
	ends := map[int]int{5: 4, 6: 4, math.MaxInt: 4, 0: 1, -1: 1, math.MinInt: 1, 1: 1, 2: 2, 3: 3, 4: 4}
	for level, as := range ends {
		for bit := 1; bit < 64; bit++ {
			x := uint64(1)<<bit | 1
			if got := Reserved(x, level); got != barred(bit, as, bit == 7) {
				t.Errorf("Reserved(%#x, %d) = %v", x, level, got)
			}
			if Reserved(x-1, level) {
				t.Errorf("Reserved(%#x, %d) of an entry that isn't present", x-1, level)
			}
			x |= 1 << 7
			if got, want := Reserved(x, level), barred(bit, as, true) || as >= 3; got != want {
				t.Errorf("Reserved(%#x, %d) = %v; want %v", x, level, got, want)
			}
		}
		if Reserved(1, level) || Reserved(0, level) || Reserved(math.MaxUint64-1, level) {
			t.Errorf("level %d: without a barred bit, or not present", level)
		}
	}
}

// P3.2: any number, beside the rule bit by bit.
func TestReservedAny(t *testing.T) {
	rnd := rand.New(rand.NewSource(32))
	for range 20000 {
		x := rnd.Uint64() & rnd.Uint64() & rnd.Uint64() & rnd.Uint64() & rnd.Uint64()
		x |= uint64(rnd.Intn(2)) | uint64(rnd.Intn(2))<<7
		level := 1 + rnd.Intn(4)
		want := false
		for bit := range 64 {
			want = want || x&1 != 0 && x>>bit&1 != 0 && barred(bit, level, x>>7&1 != 0)
		}
		if got := Reserved(x, level); got != want {
			t.Fatalf("Reserved(%#x, %d) = %v; want %v", x, level, got, want)
		}
	}
}

// P3.3: the ends of both canonical halves, and the addresses beside them.
func TestCanonical(t *testing.T) {
	for _, addr := range []uint64{0, 1, 1<<47 - 1, 0xffff800000000000, 0xffff800000000001, math.MaxUint64} {
		if !Canonical(addr) {
			t.Errorf("Canonical(%#x) = false", addr)
		}
	}
	for _, addr := range []uint64{1 << 47, 1<<48 - 1, 1 << 48, 1 << 63, 0x7fff800000000000, 0xffff7fffffffffff, 0xfffe800000000000} {
		if Canonical(addr) {
			t.Errorf("Canonical(%#x) = true", addr)
		}
	}
	for bit := 47; bit < 64; bit++ { // one bit that isn't like the others
		if Canonical(1<<bit) || Canonical(^(uint64(1) << bit)) {
			t.Errorf("bit %d alone", bit)
		}
	}
}

// P3.3: where each bit of an address goes.
func TestSplit(t *testing.T) {
	for bit := range 64 {
		at, off := Split(1 << bit)
		var want [4]int
		wantOff := 0
		switch {
		case bit < 12:
			wantOff = 1 << bit
		case bit < 48:
			want[3-(bit-12)/9] = 1 << ((bit - 12) % 9)
		}
		if at != want || off != wantOff {
			t.Errorf("Split(1<<%d) = %v, %d; want %v, %d", bit, at, off, want, wantOff)
		}
	}
	if at, off := Split(0x1234567); at != [4]int{0, 0, 9, 0x34} || off != 0x567 {
		t.Errorf("Split(0x1234567) = %v, %#x", at, off)
	}
	if at, off := Split(math.MaxUint64); at != [4]int{511, 511, 511, 511} || off != 4095 {
		t.Errorf("Split of all bits: %v, %d", at, off)
	}
}

// P3.3: both halves' ends, and numbers outside their ranges.
func TestJoin(t *testing.T) {
	for _, x := range []struct {
		at   [4]int
		off  int
		want uint64
	}{
		{[4]int{}, 0, 0},
		{[4]int{255, 511, 511, 511}, 4095, 1<<47 - 1},
		{[4]int{256, 0, 0, 0}, 0, 0xffff800000000000},
		{[4]int{511, 511, 511, 511}, 4095, math.MaxUint64},
		{[4]int{0, 0, 9, 0x34}, 0x567, 0x1234567},
	} {
		if addr, err := Join(x.at, x.off); addr != x.want || err != api.OK {
			t.Errorf("Join(%v, %d) = %#x, %d; want %#x, OK", x.at, x.off, addr, err, x.want)
		}
	}
	refused := func(at [4]int, off int) {
		if addr, err := Join(at, off); addr != 0 || err != api.ErrArg {
			t.Errorf("Join(%v, %d) = %#x, %d; want 0, ErrArg", at, off, addr, err)
		}
	}
	for i := range 4 {
		for _, bad := range []int{-1, 512, math.MinInt, math.MaxInt, 1 << 9, 1 << 32} {
			at := [4]int{1, 2, 3, 4}
			at[i] = bad
			refused(at, 5)
		}
	}
	for _, bad := range []int{-1, 4096, math.MinInt, math.MaxInt, 1 << 32} {
		refused([4]int{1, 2, 3, 4}, bad)
	}
}

// P3.3: there and back, of canonical addresses; of any others, to the canonical one with the same 48 bits.
func TestJoinThereAndBack(t *testing.T) {
	rnd := rand.New(rand.NewSource(33))
	for range 20000 {
		low := rnd.Uint64() % (1 << 48)
		want := low
		if low >= 1<<47 {
			want |= 0xffff << 48
		}
		at, off := Split(low | rnd.Uint64()<<48)
		addr, err := Join(at, off)
		if addr != want || err != api.OK || !Canonical(addr) {
			t.Fatalf("Join(Split(%#x)) = %#x, %d", low, addr, err)
		}
		if at2, off2 := Split(addr); at2 != at || off2 != off {
			t.Fatalf("Split(%#x) = %v, %d; want %v, %d", addr, at2, off2, at, off)
		}
	}
}
