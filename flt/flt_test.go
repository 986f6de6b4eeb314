package flt

import (
	"math"
	"math/big"
	"math/rand"
	"testing"

	"demesne/api"
)

const (
	minus     = 1 << 63
	inf       = 0x7ff0000000000000
	greatest  = 0x7fefffffffffffff
	leastNorm = 0x0010000000000000
	quiet     = NaN | 5
	signal    = inf | 1
	one       = 0x3ff0000000000000
)

// edges are bits of all classes, with their neighbours.
func edges() []uint64 {
	half := []uint64{
		0, 1, 2, leastNorm - 1, leastNorm, leastNorm + 1, one - 1, one, one + 1,
		bits(2), bits(3), bits(0.5), bits(10), bits(1 << 52), bits(1<<53 - 1), bits(1 << 53),
		bits(1 << 62), bits(1 << 63), bits(1<<63) - 1, bits(1<<63) + 1, bits(1e308),
		greatest - 1, greatest, inf, signal, inf | 1<<50, NaN - 1, NaN, quiet, 1<<63 - 1,
	}
	var all []uint64
	for _, x := range half {
		all = append(all, x, x|minus)
	}
	return all
}

func bits(f float64) uint64 {
	return math.Float64bits(f)
}

// plainClass: the class by the document's words, from the three parts.
func plainClass(x uint64) int {
	exponent, rest := x>>52%2048, x%(1<<52)
	if exponent == 0 && rest == 0 {
		return Zero
	} else if exponent == 0 {
		return Subnormal
	} else if exponent < 2047 {
		return Normal
	} else if rest == 0 {
		return Infinite
	}
	return NotOne
}

// P2.1: Class, of each of the classes and on both sides of their seams.
func TestClass(t *testing.T) {
	for x, want := range map[uint64]int{
		0: Zero, 1: Subnormal, leastNorm - 1: Subnormal, leastNorm: Normal, one: Normal,
		greatest: Normal, inf: Infinite, signal: NotOne, NaN - 1: NotOne, NaN: NotOne, 1<<63 - 1: NotOne,
	} {
		if Class(x) != want || Class(x|minus) != want {
			t.Errorf("Class(%#x) = %d; with the sign: %d; want %d", x, Class(x), Class(x|minus), want)
		}
	}
	rnd := rand.New(rand.NewSource(1))
	for range 100000 {
		if x := anyBits(rnd); Class(x) != plainClass(x) {
			t.Fatalf("Class(%#x) = %d; want %d", x, Class(x), plainClass(x))
		}
	}
}

// order: bits that aren't of NaNs as whole numbers in the same order.
func order(x uint64) int64 {
	if x >= minus {
		return -int64(x - minus)
	}
	return int64(x)
}

func plainCompare(a, b uint64) int {
	x, y := order(a), order(b)
	switch {
	case plainClass(a) == NotOne || plainClass(b) == NotOne:
		return 2
	case x < y:
		return -1
	case x > y:
		return 1
	}
	return 0
}

// P2.1: Compare.
func TestCompare(t *testing.T) {
	for _, x := range []struct {
		a, b uint64
		want int
	}{
		{0, minus, 0}, {minus, 0, 0}, {0, 0, 0}, {1, 0, 1}, {minus | 1, minus, -1}, {minus | 1, 0, -1},
		{bits(1), bits(2), -1}, {bits(-1), bits(-2), 1}, {inf, inf, 0}, {inf | minus, inf, -1}, {inf, greatest, 1},
		{NaN, NaN, 2}, {signal, one, 2}, {one, quiet, 2}, {inf, NaN | minus, 2}, {NaN, inf | minus, 2},
	} {
		if c := Compare(x.a, x.b); c != x.want {
			t.Errorf("Compare(%#x, %#x) = %d; want %d", x.a, x.b, c, x.want)
		}
	}
	for _, a := range edges() {
		for _, b := range edges() {
			if c, want := Compare(a, b), plainCompare(a, b); c != want {
				t.Errorf("Compare(%#x, %#x) = %d; want %d", a, b, c, want)
			}
		}
	}
}

// P2.1: ToInt, with example 2.
func TestToInt(t *testing.T) {
	for _, x := range []struct {
		x    uint64
		want int64
		e    api.Errno
	}{
		{bits(-1.9), -1, api.OK}, {bits(1.9), 1, api.OK}, {bits(0.5), 0, api.OK}, {bits(-0.5), 0, api.OK},
		{0, 0, api.OK}, {minus, 0, api.OK}, {1, 0, api.OK}, {minus | 1, 0, api.OK}, {one - 1, 0, api.OK},
		{bits(1<<53 - 1), 1<<53 - 1, api.OK}, {bits(4503599627370495.5), 4503599627370495, api.OK},
		{bits(1 << 63), 0, api.ErrArg}, {bits(1<<63) - 1, math.MaxInt64 - 1023, api.OK},
		{bits(-1 << 63), math.MinInt64, api.OK}, {bits(-1<<63) + 1, 0, api.ErrArg}, {bits(-1<<63) - 1, math.MinInt64 + 1024, api.OK},
		{greatest, 0, api.ErrArg}, {inf, 0, api.ErrArg}, {inf | minus, 0, api.ErrArg},
		{NaN, 0, api.ErrArg}, {NaN | minus, 0, api.ErrArg}, {signal, 0, api.ErrArg}, {1<<64 - 1, 0, api.ErrArg},
	} {
		if n, e := ToInt(x.x); n != x.want || e != x.e {
			t.Errorf("ToInt(%#x) = %d, %d; want %d, %d", x.x, n, e, x.want, x.e)
		}
	}
	rnd := rand.New(rand.NewSource(2))
	for range 20000 {
		x := anyBits(rnd)
		n, e := ToInt(x)
		if want, f := plainToInt(x); n != want || e != f {
			t.Fatalf("ToInt(%#x) = %d, %d; want %d, %d", x, n, e, want, f)
		}
	}
}

func plainToInt(x uint64) (int64, api.Errno) {
	if plainClass(x) >= Infinite {
		return 0, api.ErrArg
	}
	r := rat(x)
	whole := new(big.Int).Quo(r.Num(), r.Denom())
	if !whole.IsInt64() {
		return 0, api.ErrArg
	}
	return whole.Int64(), api.OK
}

// P2.1: FromInt, with ties to the number whose last bit is 0.
func TestFromInt(t *testing.T) {
	for n, want := range map[int64]uint64{
		0: 0, 1: one, -1: one | minus, 1 << 53: bits(1 << 53),
		1<<53 + 1: bits(1 << 53), 1<<53 + 2: bits(1<<53) + 1, 1<<53 + 3: bits(1<<53) + 2,
		-(1<<53 + 1): bits(-(1 << 53)), -(1<<53 + 3): bits(-(1 << 53)) + 2,
		math.MaxInt64: bits(1 << 63), math.MinInt64: bits(-1 << 63), math.MaxInt64 - 511: bits(1 << 63), math.MaxInt64 - 512: bits(1<<63) - 1,
	} {
		if x := FromInt(n); x != want {
			t.Errorf("FromInt(%d) = %#x; want %#x", n, x, want)
		}
	}
	rnd := rand.New(rand.NewSource(3))
	for range 20000 {
		n := int64(rnd.Uint64()) >> rnd.Intn(64)
		want, _ := new(big.Rat).SetInt64(n).Float64()
		if x := FromInt(n); x != bits(want) {
			t.Fatalf("FromInt(%d) = %#x; want %#x", n, x, bits(want))
		}
	}
}

// P2.2: the chapter's examples, and what the document says of each operation.
func TestDo(t *testing.T) {
	for _, x := range []struct {
		op         int
		a, b, want uint64
		told       int
	}{
		{Div, one, 0, inf, Divide}, {Div, one, minus, inf | minus, Divide}, {Div, 1, 0, inf, Divide},
		{Div, 0, 0, NaN, Invalid}, {Div, minus, 0, NaN, Invalid}, {Div, inf, 0, inf, 0}, {Div, inf, inf, NaN, Invalid},
		{Div, NaN, 0, NaN, 0}, {Div, signal, 0, NaN, Invalid}, {Div, 0, one, 0, 0}, {Div, one, inf, 0, 0},
		{Div, greatest, 1, inf, Overflow}, {Div, one, bits(3), 0x3fd5555555555555, 0},
		{Add, greatest, greatest, inf, Overflow}, {Add, greatest, one, greatest, 0}, {Add, inf, one, inf, 0},
		{Add, inf, inf | minus, NaN, Invalid}, {Sub, inf, inf, NaN, Invalid}, {Sub, inf | minus, inf, inf | minus, 0},
		{Add, minus, 0, 0, 0}, {Add, minus, minus, minus, 0}, {Sub, one, one, 0, 0}, {Sub, minus, 0, minus, 0},
		{Add, 1, 1, 2, 0}, {Sub, leastNorm, 1, leastNorm - 1, 0}, {Add, leastNorm - 1, 1, leastNorm, 0},
		{Add, bits(1 << 53), one, bits(1 << 53), 0}, {Add, bits(1<<53) + 1, one, bits(1<<53) + 2, 0},
		{Add, bits(0.1), bits(0.2), 0x3fd3333333333334, 0},
		{Mul, inf, 0, NaN, Invalid}, {Mul, inf, bits(-2), inf | minus, 0}, {Mul, greatest, bits(-2), inf | minus, Overflow},
		{Mul, 1, bits(0.5), 0, 0}, {Mul, 3, bits(0.5), 2, 0}, {Mul, minus | 1, bits(0.5), minus, 0}, {Mul, 0, minus, minus, 0},
		{Min, 0, minus, minus, 0}, {Min, minus, 0, minus, 0}, {Max, 0, minus, 0, 0}, {Max, minus, 0, 0, 0},
		{Min, minus, minus, minus, 0}, {Max, minus, minus, minus, 0}, {Min, one, bits(2), one, 0}, {Max, one, bits(2), bits(2), 0},
		{Max, bits(-1), bits(-2), bits(-1), 0}, {Max, inf, one, inf, 0}, {Min, inf | minus, one, inf | minus, 0},
		{Min, inf | minus, NaN, NaN, 0}, {Max, quiet, inf, NaN, 0}, {Max, inf, signal, NaN, Invalid}, {Min, one, quiet | minus, NaN, 0},
		{Add, NaN, one, NaN, 0}, {Add, signal, one, NaN, Invalid}, {Mul, quiet, signal | minus, NaN, Invalid},
		{Neg, one, 0, one | minus, 0}, {Neg, 0, signal, minus, 0}, {Neg, quiet, 0, quiet | minus, 0}, {Neg, signal | minus, signal, signal, 0},
		{Abs, bits(-2), 0, bits(2), 0}, {Abs, minus, 0, 0, 0}, {Abs, signal | minus, signal, signal, 0}, {Abs, quiet | minus, 0, quiet, 0}, {Abs, inf | minus, 0, inf, 0},
	} {
		if r, told, e := Do(x.op, x.a, x.b); r != x.want || told != x.told || e != api.OK {
			t.Errorf("Do(%d, %#x, %#x) = %#x, %d, %d; want %#x, %d", x.op, x.a, x.b, r, told, e, x.want, x.told)
		}
	}
}

// P2.2: numbers that are no operation.
func TestDoErrors(t *testing.T) {
	for _, op := range []int{0, 9, -1, math.MinInt, math.MaxInt, 256 + Add} {
		for _, x := range []uint64{0, one, signal} {
			if r, told, e := Do(op, x, x); r != 0 || told != 0 || e != api.ErrArg {
				t.Errorf("Do(%d, %#x, %#x) = %#x, %d, %d", op, x, x, r, told, e)
			}
		}
	}
}

func rat(x uint64) *big.Rat {
	return new(big.Rat).SetFloat64(math.Float64frombits(x))
}

// plainFinite: the result of Add to Div of two finite numbers (the second one not 0, for Div), reckoned in fractions.
func plainFinite(op int, a, b uint64) uint64 {
	r := new(big.Rat)
	sign := (a ^ b) & minus
	switch op {
	case Add:
		r.Add(rat(a), rat(b))
		sign = a & b & minus
	case Sub:
		r.Sub(rat(a), rat(b))
		sign = a &^ b & minus
	case Mul:
		r.Mul(rat(a), rat(b))
	case Div:
		r.Quo(rat(a), rat(b))
	}
	f, _ := r.Float64()
	if f == 0 {
		return sign
	}
	return bits(f)
}

// plainDo: Do, by the document's words and fractions alone.
func plainDo(op int, a, b uint64) (uint64, int) {
	ca, cb := plainClass(a), plainClass(b)
	sign := (a ^ b) & minus
	if ca == NotOne || cb == NotOne {
		if ca == NotOne && a>>51%2 == 0 || cb == NotOne && b>>51%2 == 0 {
			return NaN, Invalid
		}
		return NaN, 0
	}
	switch {
	case op == Min || op == Max:
		less := order(a) < order(b) || order(a) == order(b) && a >= minus
		if less == (op == Min) {
			return a, 0
		}
		return b, 0
	case op == Sub && cb == Infinite || op == Add && cb == Infinite:
		if op == Sub {
			b ^= minus
		}
		if ca == Infinite && a != b {
			return NaN, Invalid
		}
		return b, 0
	case op <= Sub && ca == Infinite:
		return a, 0
	case op == Mul && (ca == Infinite || cb == Infinite):
		if ca == Zero || cb == Zero {
			return NaN, Invalid
		}
		return sign | inf, 0
	case op == Div && (ca == Infinite && cb == Infinite || ca == Zero && cb == Zero):
		return NaN, Invalid
	case op == Div && ca == Infinite:
		return sign | inf, 0
	case op == Div && cb == Infinite:
		return sign, 0
	case op == Div && cb == Zero:
		return sign | inf, Divide
	}
	r := plainFinite(op, a, b)
	if plainClass(r) == Infinite {
		return r, Overflow
	}
	return r, 0
}

func besideFractions(t *testing.T, op int, a, b uint64) {
	t.Helper()
	r, told, e := Do(op, a, b)
	if want, tell := plainDo(op, a, b); r != want || told != tell || e != api.OK {
		t.Fatalf("Do(%d, %#x, %#x) = %#x, %d, %d; want %#x, %d", op, a, b, r, told, e, want, tell)
	}
}

// P2.2: all pairs of edges beside fractions.
func TestDoEdges(t *testing.T) {
	for op := Add; op <= Max; op++ {
		for _, a := range edges() {
			for _, b := range edges() {
				besideFractions(t, op, a, b)
			}
		}
	}
	for _, a := range edges() {
		for _, b := range edges() {
			if r, told, e := Do(Neg, a, b); r != a^minus || told != 0 || e != api.OK {
				t.Errorf("Neg of %#x: %#x, %d, %d", a, r, told, e)
			}
			if r, told, e := Do(Abs, a, b); r != a&^minus || told != 0 || e != api.OK {
				t.Errorf("Abs of %#x: %#x, %d, %d", a, r, told, e)
			}
		}
	}
}

// anyBits: any bits, or ones whose exponents are such that results are rounded, subnormal or too great.
func anyBits(rnd *rand.Rand) uint64 {
	x := rnd.Uint64()
	exponent := uint64(0)
	switch rnd.Intn(6) {
	case 0:
		return x
	case 1:
		exponent = uint64(rnd.Intn(3))
	case 2:
		exponent = 2045 + uint64(rnd.Intn(3))
	case 3:
		exponent = uint64(480 + rnd.Intn(70))
	default:
		exponent = uint64(1023 + rnd.Intn(140) - 70)
	}
	if rnd.Intn(3) == 0 {
		x &^= 1<<30 - 1 // few bits: results that stand halfway between two numbers
	}
	return x&^(2047<<52) | exponent<<52
}

// P2.2: many numbers beside fractions.
func TestDoBesideFractions(t *testing.T) {
	rnd := rand.New(rand.NewSource(4))
	for range 30000 {
		besideFractions(t, Add+rnd.Intn(Max), anyBits(rnd), anyBits(rnd))
	}
}
