// Package flt is layer 2: see shared/doc/02-flt.md.
package flt

import (
	"math"

	"demesne/api"
)

// NaN is the one that answers are.
const NaN = 0x7ff8000000000000

// What may be told beside a result.
const (
	Invalid  = 1
	Divide   = 2
	Overflow = 4
)

// The classes.
const (
	Zero      = 0
	Subnormal = 1
	Normal    = 2
	Infinite  = 3
	NotOne    = 4
)

// The operations.
const (
	Add = 1
	Sub = 2
	Mul = 3
	Div = 4
	Min = 5
	Max = 6
	Neg = 7
	Abs = 8
)

// The parts of a number's bits.
const (
	signBit  = 1 << 63
	restBits = 1<<52 - 1
	quietBit = 1 << 51 // a NaN without it signals
	topPower = 2047    // the exponent of what is infinite, and of NaNs
)

// Class: of a number's bits.
func Class(x uint64) int {
	power, rest := x>>52&topPower, x&restBits
	switch {
	case power == topPower && rest != 0:
		return NotOne
	case power == topPower:
		return Infinite
	case power != 0:
		return Normal
	case rest != 0:
		return Subnormal
	}
	return Zero
}

// Compare: -1, 0, 1; 2: one of them is a NaN.
func Compare(a, b uint64) int {
	x, y := math.Float64frombits(a), math.Float64frombits(b)
	switch {
	case x < y:
		return -1
	case x > y:
		return 1
	case x == y:
		return 0
	}
	return 2
}

// Do: the result of an operation on two numbers' bits, and what is told beside it.
func Do(op int, a, b uint64) (uint64, int, api.Errno) {
	switch {
	case op < Add || op > Abs:
		return 0, 0, api.ErrArg
	case op == Neg:
		return a ^ signBit, 0, api.OK
	case op == Abs:
		return a &^ signBit, 0, api.OK
	}
	r := reckon(op, a, b)
	return r, told(op, a, b, r), api.OK
}

// ToInt: a number brought towards 0 to a whole one.
func ToInt(x uint64) (int64, api.Errno) {
	// Both bounds are numbers of float64; 2^63 - 1 isn't one. A NaN fails both.
	f := math.Trunc(math.Float64frombits(x))
	if f >= -(1<<63) && f < 1<<63 {
		return int64(f), api.OK
	}
	return 0, api.ErrArg
}

// FromInt: the number that is nearest to a whole one, of two the one whose last bit is 0.
func FromInt(n int64) uint64 {
	return math.Float64bits(float64(n))
}

// reckon: the result of one of the operations Add to Max.
func reckon(op int, a, b uint64) uint64 {
	if Class(a) == NotOne || Class(b) == NotOne {
		return NaN
	}
	x, y := math.Float64frombits(a), math.Float64frombits(b)
	var f float64
	switch op {
	case Add:
		f = x + y
	case Sub:
		f = x - y
	case Mul:
		f = x * y
	case Div:
		f = x / y
	case Min:
		f = min(x, y)
	case Max:
		f = max(x, y)
	}
	// The machine makes NaNs with other bits, the sign among them.
	if math.IsNaN(f) {
		return NaN
	}
	return math.Float64bits(f)
}

// told: what is told beside the result r of one of the operations Add to Max.
func told(op int, a, b, r uint64) int {
	ca, cb, cr := Class(a), Class(b), Class(r)
	switch {
	case signals(a) || signals(b):
		return Invalid
	case ca == NotOne || cb == NotOne:
		return 0
	case cr == NotOne:
		return Invalid
	case op == Div && cb == Zero && ca != Zero && ca != Infinite:
		return Divide
	case cr == Infinite && ca != Infinite && cb != Infinite:
		return Overflow
	}
	return 0
}

// signals: is it a NaN that signals?
func signals(x uint64) bool {
	return Class(x) == NotOne && x&quietBit == 0
}
