package bootmap

import (
	"math"
	"math/rand"
	"slices"
	"testing"

	"demesne/api"
)

// bytesOf: the map that says these areas, by the document's bytes.
func bytesOf(areas ...Area) []byte {
	var s []byte
	for _, a := range areas {
		for i := range 8 {
			s = append(s, byte(a.From>>(8*i)))
		}
		for i := range 8 {
			s = append(s, byte(a.Len>>(8*i)))
		}
		for i := range 4 {
			s = append(s, byte(a.Kind>>(8*i)))
		}
	}
	return s
}

// ranges: each two numbers are a range.
func ranges(ends ...int) []api.Range {
	var l []api.Range
	for i := 0; i < len(ends); i += 2 {
		l = append(l, api.Range{From: ends[i], To: ends[i+1]})
	}
	return l
}

func wantAreas(t *testing.T, s []byte, want ...Area) {
	t.Helper()
	if got, e := Parse(s); e != api.OK || !slices.Equal(got, want) {
		t.Errorf("Parse(%x) = %+v, %d; want %+v", s, got, e, want)
	}
}

func wantParseError(t *testing.T, s []byte, want api.Errno) {
	t.Helper()
	if got, e := Parse(s); e != want || len(got) != 0 {
		t.Errorf("Parse of %d bytes = %+v, %d; want %d", len(s), got, e, want)
	}
}

func wantMerge(t *testing.T, l, want []api.Range) {
	t.Helper()
	if got := Merge(l); !slices.Equal(got, want) {
		t.Errorf("Merge(%v) = %v; want %v", l, got, want)
	}
}

func wantLess(t *testing.T, l, away, want []api.Range) {
	t.Helper()
	if got := Less(l, away); !slices.Equal(got, want) {
		t.Errorf("Less(%v, %v) = %v; want %v", l, away, got, want)
	}
}

func wantFrames(t *testing.T, s []byte, frames int, kernel api.Range, want []api.Range) {
	t.Helper()
	if got, e := Frames(s, frames, kernel); e != api.OK || !slices.Equal(got, want) {
		t.Errorf("Frames(%x, %d, %v) = %v, %d; want %v", s, frames, kernel, got, e, want)
	}
}

func wantFramesError(t *testing.T, s []byte, frames int, kernel api.Range, want api.Errno) {
	t.Helper()
	if got, e := Frames(s, frames, kernel); e != want || len(got) != 0 {
		t.Errorf("Frames of %d bytes, %d, %v = %v, %d; want %d", len(s), frames, kernel, got, e, want)
	}
}

func TestConstants(t *testing.T) {
	if Size != 20 || Usable != 1 {
		t.Error("an entry's bytes, and the kind that may be used")
	}
}

// P6.2, P6.3: the chapter's examples.
func TestExamples(t *testing.T) {
	s := bytesOf(Area{0, 0x10000, 1}, Area{0x3001, 1, 2})
	wantFrames(t, s, 8, api.Range{From: 0, To: 1}, ranges(1, 3, 4, 8))
	wantMerge(t, ranges(3, 5, 1, 3, 9, 9), ranges(1, 5))
	wantLess(t, ranges(0, 10), ranges(2, 4, 4, 5), ranges(0, 2, 5, 10))
}

// P6.1: each byte of an entry has its place in its number.
func TestParseBytes(t *testing.T) {
	wantAreas(t, nil)
	wantAreas(t, []byte{})
	s := []byte{1, 2, 3, 4, 5, 6, 7, 8, 9, 10, 11, 12, 13, 14, 15, 16, 17, 18, 19, 20}
	wantAreas(t, s, Area{0x0807060504030201, 0x100f0e0d0c0b0a09, 0x14131211})
	for i := range 20 {
		s := make([]byte, 20)
		s[i] = 0x80
		switch {
		case i < 8:
			wantAreas(t, s, Area{From: 0x80 << (8 * i)})
		case i < 16:
			wantAreas(t, s, Area{Len: 0x80 << (8 * (i - 8))})
		default:
			wantAreas(t, s, Area{Kind: 0x80 << (8 * (i - 16))})
		}
	}
}

// P6.1: the areas come in the order of the map, however they lie.
func TestParseOrder(t *testing.T) {
	all := []Area{{9, 1, 2}, {3, 0, 1}, {9, 1, 2}, {0, 100, 0}, {5, 5, math.MaxUint32}}
	wantAreas(t, bytesOf(all...), all...)
	rnd := rand.New(rand.NewSource(61))
	for n := range 65 {
		var all []Area
		for range n {
			all = append(all, Area{rnd.Uint64() >> 1, rnd.Uint64() >> 1, rnd.Uint32()})
		}
		wantAreas(t, bytesOf(all...), all...)
	}
}

// P6.1: 1280 bytes are 64 areas; more are too many, whatever their count.
func TestParseBig(t *testing.T) {
	wantAreas(t, make([]byte, 1280), make([]Area, 64)...)
	for _, n := range []int{1281, 1299, 1300, 1301, 2560, 100000} {
		wantParseError(t, make([]byte, n), api.ErrBig)
	}
}

// P6.1: counts that are no multiple of 20.
func TestParseEnd(t *testing.T) {
	for n := range 1281 {
		if n%20 != 0 {
			wantParseError(t, make([]byte, n), api.ErrEnd)
		} else {
			wantAreas(t, make([]byte, n), make([]Area, n/20)...)
		}
	}
}

// P6.1: areas that end at 2^64 - 1, at 2^64, and beyond.
func TestParseForm(t *testing.T) {
	const top = math.MaxUint64
	for _, a := range []Area{{0, top, 1}, {top, 0, 1}, {1, top - 1, 2}, {1 << 63, 1<<63 - 1, 1}, {top - 4095, 4095, 0}} {
		wantAreas(t, bytesOf(a), a)
	}
	good := Area{0, 4096, 1}
	for _, a := range []Area{{1, top, 1}, {top, 1, 1}, {1 << 63, 1 << 63, 0}, {top, top, 2}, {top - 4095, 4096, 1}} {
		wantParseError(t, bytesOf(a), api.ErrForm)
		wantParseError(t, bytesOf(good, good, a), api.ErrForm)
		wantParseError(t, bytesOf(a, good), api.ErrForm)
	}
}

// P6.1: which of several errors is answered.
func TestParseErrorsInOrder(t *testing.T) {
	bad := bytesOf(Area{1 << 63, 1 << 63, 1})
	wantParseError(t, append(slices.Clone(bad), 0), api.ErrEnd)
	wantParseError(t, slices.Repeat(bad, 64), api.ErrForm)
	wantParseError(t, slices.Repeat(bad, 65), api.ErrBig)
	wantParseError(t, append(slices.Repeat(bad, 64), 0), api.ErrBig)
}

// P6.2: ranges that meet, overlap, lie in one another, are empty or turned round; in any order.
func TestMerge(t *testing.T) {
	wantMerge(t, nil, nil)
	wantMerge(t, []api.Range{}, nil)
	wantMerge(t, ranges(4, 4, 5, 2, 0, 0, -1, -1), nil)
	wantMerge(t, ranges(1, 3, 3, 5), ranges(1, 5))
	wantMerge(t, ranges(3, 5, 1, 3), ranges(1, 5))
	wantMerge(t, ranges(1, 3, 4, 5), ranges(1, 3, 4, 5))
	wantMerge(t, ranges(4, 5, 1, 3), ranges(1, 3, 4, 5))
	wantMerge(t, ranges(1, 9, 2, 3, 4, 5), ranges(1, 9))
	wantMerge(t, ranges(2, 3, 4, 5, 1, 9), ranges(1, 9))
	wantMerge(t, ranges(1, 4, 2, 6, 5, 7), ranges(1, 7))
	wantMerge(t, ranges(1, 2, 1, 8, 1, 4), ranges(1, 8))
	wantMerge(t, ranges(1, 2, 1, 2, 1, 2), ranges(1, 2))
	wantMerge(t, ranges(0, 2, 2, 2, 3, 3, 4, 6), ranges(0, 2, 4, 6)) // an empty one joins nothing
	wantMerge(t, ranges(0, 2, 4, 1, 4, 6), ranges(0, 2, 4, 6))       // nor does one that is turned round
	wantMerge(t, ranges(-5, -3, -3, 0, 0, 1), ranges(-5, 1))
}

// P6.2: the least and the greatest int as an end.
func TestMergeEnds(t *testing.T) {
	const least, most = math.MinInt, math.MaxInt
	wantMerge(t, ranges(least, most), ranges(least, most))
	wantMerge(t, ranges(most, least), nil)
	wantMerge(t, ranges(most, most, least, least), nil)
	wantMerge(t, ranges(most-1, most, least, least+1), ranges(least, least+1, most-1, most))
	wantMerge(t, ranges(0, most, least, 0), ranges(least, most))
	wantMerge(t, ranges(1, most, least, 0), ranges(least, 0, 1, most))
	wantMerge(t, ranges(5, most, 3, most, least, most), ranges(least, most))
}

// P6.2: what is taken away lies anywhere, in any order.
func TestLess(t *testing.T) {
	all := ranges(0, 10)
	wantLess(t, nil, nil, nil)
	wantLess(t, nil, all, nil)
	wantLess(t, all, nil, all)
	wantLess(t, all, []api.Range{}, all)
	wantLess(t, all, all, nil)
	wantLess(t, all, ranges(-5, 20), nil)
	wantLess(t, all, ranges(5, 20, -5, 5), nil)
	wantLess(t, all, ranges(0, 1), ranges(1, 10))
	wantLess(t, all, ranges(9, 10), ranges(0, 9))
	wantLess(t, all, ranges(-3, 2, 8, 15), ranges(2, 8))
	wantLess(t, all, ranges(10, 12, -2, 0), all)
	wantLess(t, all, ranges(5, 5, 7, 3, 10, 0), all)
	wantLess(t, all, ranges(6, 7, 2, 3), ranges(0, 2, 3, 6, 7, 10))
	wantLess(t, all, ranges(4, 5, 2, 4), ranges(0, 2, 5, 10))
	wantLess(t, ranges(20, 30, 0, 10), ranges(5, 25), ranges(0, 5, 25, 30))
	wantLess(t, ranges(20, 30, 0, 10, 10, 12), ranges(13, 19), ranges(0, 12, 20, 30))
	wantLess(t, ranges(0, 5, 3, 8), ranges(4, 4), ranges(0, 8))
	wantLess(t, ranges(8, 2), nil, nil)
	wantLess(t, ranges(0, 3, 4, 7, 8, 11), ranges(2, 9), ranges(0, 2, 9, 11))
	wantLess(t, ranges(0, 3, 4, 7, 8, 11), ranges(5, 6, 1, 2, 9, 10), ranges(0, 1, 2, 3, 4, 5, 6, 7, 8, 9, 10, 11))
}

// P6.2: the least and the greatest int as an end.
func TestLessEnds(t *testing.T) {
	const least, most = math.MinInt, math.MaxInt
	all := ranges(least, most)
	wantLess(t, all, all, nil)
	wantLess(t, all, ranges(most, least), all)
	wantLess(t, all, ranges(0, most), ranges(least, 0))
	wantLess(t, all, ranges(least, 0), ranges(0, most))
	wantLess(t, all, ranges(0, 1), ranges(least, 0, 1, most))
	wantLess(t, all, ranges(most-1, most, least, least+1), ranges(least+1, most-1))
	wantLess(t, ranges(0, 1), all, nil)
}

// has: does a number lie in a range of a list?
func has(l []api.Range, n int) bool {
	return slices.ContainsFunc(l, func(r api.Range) bool { return r.From <= n && n < r.To })
}

// fewest: are they rising ranges that have numbers and don't meet?
func fewest(l []api.Range) bool {
	for i, r := range l {
		if r.From >= r.To || i > 0 && l[i-1].To >= r.From {
			return false
		}
	}
	return true
}

// some: ranges of small numbers, turned round and empty ones among them.
func some(rnd *rand.Rand) []api.Range {
	var l []api.Range
	for range rnd.Intn(7) {
		from := rnd.Intn(40) - 20
		l = append(l, api.Range{From: from, To: from + rnd.Intn(12) - 3})
	}
	return l
}

// P6.2: just these numbers, in rising ranges that don't meet.
func TestMergeLessByNumbers(t *testing.T) {
	rnd := rand.New(rand.NewSource(62))
	for range 20000 {
		l, away := some(rnd), some(rnd)
		merged, left := Merge(l), Less(l, away)
		if !fewest(merged) || !fewest(left) {
			t.Fatalf("Merge(%v) = %v; Less(.., %v) = %v", l, merged, away, left)
		}
		for n := -30; n < 40; n++ {
			if has(merged, n) != has(l, n) {
				t.Fatalf("Merge(%v) = %v: %d", l, merged, n)
			}
			if has(left, n) != (has(l, n) && !has(away, n)) {
				t.Fatalf("Less(%v, %v) = %v: %d", l, away, left, n)
			}
		}
	}
}

// P1: long lists are gone through in about the time that sorting them takes.
func TestLongLists(t *testing.T) {
	const n = 200000
	var l, away []api.Range
	for i := range n {
		l = append(l, api.Range{From: 4 * (n - i), To: 4*(n-i) + 3})
		away = append(away, api.Range{From: 4*i + 5, To: 4*i + 6})
	}
	if got := Merge(l); len(got) != n || !fewest(got) {
		t.Errorf("Merge: %d ranges", len(got))
	}
	if got := Less(l, away); len(got) != 2*n || !fewest(got) {
		t.Errorf("Less: %d ranges", len(got))
	}
	if got := Less(l, ranges(0, 4*n+3)); len(got) != 0 {
		t.Errorf("Less of all: %d ranges", len(got))
	}
}

// P6.3: which of several errors is answered, and what is answered beside it.
func TestFramesErrors(t *testing.T) {
	const least, most = math.MinInt, math.MaxInt
	good := bytesOf(Area{0, 0x10000, 1})
	for _, s := range [][]byte{nil, good, good[:19], make([]byte, 1281), bytesOf(Area{1, math.MaxUint64, 1})} {
		for _, frames := range []int{0, -1, least, 1<<20 + 1, most} {
			wantFramesError(t, s, frames, api.Range{}, api.ErrArg)
			wantFramesError(t, s, frames, api.Range{From: 0, To: frames}, api.ErrArg)
		}
		for _, kernel := range ranges(-1, 0, -1, 4, 3, 2, 0, 9, 9, 9, 8, 9, least, most, most, least, least, 0, 0, most, 1, 0) {
			wantFramesError(t, s, 8, kernel, api.ErrArg)
		}
	}
	for _, kernel := range ranges(0, 0, 3, 3, 0, 8) {
		wantFramesError(t, make([]byte, 1281), 8, kernel, api.ErrBig)
		wantFramesError(t, good[:19], 8, kernel, api.ErrEnd)
		wantFramesError(t, bytesOf(Area{0, 0x10000, 1}, Area{1, math.MaxUint64, 2}), 8, kernel, api.ErrForm)
		wantFramesError(t, nil, 8, kernel, api.ErrNoMem)
	}
}

// P6.3: a map that leaves no frame.
func TestFramesNone(t *testing.T) {
	none := api.Range{}
	wantFramesError(t, nil, 1, none, api.ErrNoMem)
	wantFramesError(t, []byte{}, 1<<20, none, api.ErrNoMem)
	wantFramesError(t, bytesOf(Area{1, 0x1000, 1}), 8, none, api.ErrNoMem)
	wantFramesError(t, bytesOf(Area{0, 0xfff, 1}), 8, none, api.ErrNoMem)
	wantFramesError(t, bytesOf(Area{0, 0, 1}), 8, none, api.ErrNoMem)
	wantFramesError(t, bytesOf(Area{0, 0x8000, 2}), 8, none, api.ErrNoMem)
	wantFramesError(t, bytesOf(Area{0, 0x8000, 1}, Area{0, 0x8000, 2}), 8, none, api.ErrNoMem)
	wantFramesError(t, bytesOf(Area{0, 0x8000, 1}), 8, api.Range{From: 0, To: 8}, api.ErrNoMem)
	wantFramesError(t, bytesOf(Area{0x8000, 0x8000, 1}), 8, none, api.ErrNoMem)
	wantFramesError(t, bytesOf(Area{1 << 63, 1<<63 - 1, 1}), 1<<20, none, api.ErrNoMem)
}

// P6.3: usable areas that begin or end within a frame have just the whole ones.
func TestFramesUsable(t *testing.T) {
	none := api.Range{}
	wantFrames(t, bytesOf(Area{0, 0x1000, 1}), 8, none, ranges(0, 1))
	wantFrames(t, bytesOf(Area{1, 0x2fff, 1}), 8, none, ranges(1, 3))
	wantFrames(t, bytesOf(Area{0xfff, 0x1001, 1}), 8, none, ranges(1, 2))
	wantFrames(t, bytesOf(Area{0x1000, 0x1fff, 1}), 8, none, ranges(1, 2))
	wantFrames(t, bytesOf(Area{0x1001, 0x2ffe, 1}), 8, none, ranges(2, 3))
	wantFrames(t, bytesOf(Area{0x5000, 0x1000, 1}, Area{0x1000, 0x1000, 1}, Area{0x2000, 0x1000, 1}), 8, none, ranges(1, 3, 5, 6))
	// Two areas that meet within a frame: neither has all of its bytes.
	wantFrames(t, bytesOf(Area{0, 0x1800, 1}, Area{0x1800, 0x1800, 1}), 8, none, ranges(0, 1, 2, 3))
	wantFrames(t, bytesOf(Area{0, 0x2000, 1}, Area{0x1000, 0x2000, 1}), 8, none, ranges(0, 3))
}

// P6.3: reserved areas have each frame of which they have a byte, wherever the map tells them; none, if they have no byte.
func TestFramesReserved(t *testing.T) {
	none := api.Range{}
	all := Area{0, 0x8000, 1}
	for _, x := range []struct {
		a    Area
		want []api.Range
	}{
		{Area{0x3000, 1, 2}, ranges(0, 3, 4, 8)},
		{Area{0x3fff, 1, 2}, ranges(0, 3, 4, 8)},
		{Area{0x3fff, 2, 2}, ranges(0, 3, 5, 8)},
		{Area{0x2fff, 0x1001, 2}, ranges(0, 2, 4, 8)},
		{Area{0x2fff, 0x1002, 2}, ranges(0, 2, 5, 8)},
		{Area{0x3000, 0x1000, 2}, ranges(0, 3, 4, 8)},
		{Area{0x3000, 0, 2}, ranges(0, 8)},
		{Area{0x3001, 0, 2}, ranges(0, 8)},
		{Area{0, 0, 2}, ranges(0, 8)},
		{Area{0, 1, 2}, ranges(1, 8)},
		{Area{0x7fff, math.MaxUint64 - 0x7fff, 2}, ranges(0, 7)},
		{Area{1, math.MaxUint64 - 1, 2}, nil},
		{Area{0x8000, 0x1000, 2}, ranges(0, 8)},
		{Area{math.MaxUint64, 0, 2}, ranges(0, 8)},
		{Area{math.MaxUint64 - 1, 1, 2}, ranges(0, 8)},
	} {
		for _, s := range [][]byte{bytesOf(all, x.a), bytesOf(x.a, all), bytesOf(x.a, all, x.a, all)} {
			if x.want == nil {
				wantFramesError(t, s, 8, none, api.ErrNoMem)
			} else {
				wantFrames(t, s, 8, none, x.want)
			}
		}
	}
}

// P6.3: kind 1 alone may be used, by all four of its bytes.
func TestFramesKinds(t *testing.T) {
	all := Area{0, 0x8000, 1}
	for _, kind := range []uint32{0, 2, 3, 0x101, 0x10001, 0x1000001, 0x01000000, math.MaxUint32} {
		wantFrames(t, bytesOf(all, Area{0x2000, 0x1000, kind}), 8, api.Range{}, ranges(0, 2, 3, 8))
	}
	wantFrames(t, bytesOf(all, Area{0x2000, 0x1000, 1}), 8, api.Range{}, ranges(0, 8))
}

// P6.3: areas of no bytes, that may be used, have no frame and part none.
func TestFramesNoBytes(t *testing.T) {
	for _, at := range []uint64{0, 1, 0xfff, 0x1000, 0x3001, math.MaxUint64} {
		wantFrames(t, bytesOf(Area{0x5000, 0x1000, 1}, Area{at, 0, 1}), 8, api.Range{}, ranges(5, 6))
	}
}

// P6.3: areas beyond the memory, and those that go beyond it.
func TestFramesBeyond(t *testing.T) {
	none := api.Range{}
	far := []Area{{0x8000, 0x1000, 1}, {1 << 40, 1 << 40, 1}, {1 << 63, 1<<63 - 1, 1}, {math.MaxUint64, 0, 1}}
	wantFrames(t, bytesOf(append(far, Area{0x1000, 0x1000, 1})...), 8, none, ranges(1, 2))
	wantFrames(t, bytesOf(Area{0, math.MaxUint64, 1}), 8, none, ranges(0, 8))
	wantFrames(t, bytesOf(Area{0x6001, math.MaxUint64 - 0x6001, 1}), 8, none, ranges(7, 8))
	wantFrames(t, bytesOf(Area{0, math.MaxUint64, 1}), 1, none, ranges(0, 1))
	wantFrames(t, bytesOf(Area{0, math.MaxUint64, 1}), 1<<20, none, ranges(0, 1<<20))
	wantFrames(t, bytesOf(Area{0, math.MaxUint64, 1}, Area{1 << 32, 5, 7}), 1<<20, none, ranges(0, 1<<20))
}

// P6.3: kernels at either end, in the midst, empty, and over what isn't usable.
func TestFramesKernel(t *testing.T) {
	s := bytesOf(Area{0, 0x8000, 1})
	for _, kernel := range ranges(0, 0, 3, 3, 8, 8) {
		wantFrames(t, s, 8, kernel, ranges(0, 8))
	}
	wantFrames(t, s, 8, api.Range{From: 0, To: 1}, ranges(1, 8))
	wantFrames(t, s, 8, api.Range{From: 7, To: 8}, ranges(0, 7))
	wantFrames(t, s, 8, api.Range{From: 2, To: 5}, ranges(0, 2, 5, 8))
	wantFramesError(t, s, 8, api.Range{From: 0, To: 8}, api.ErrNoMem)
	hole := bytesOf(Area{0, 0x3000, 1}, Area{0x5000, 0x3000, 1})
	wantFrames(t, hole, 8, api.Range{From: 3, To: 5}, ranges(0, 3, 5, 8))
	wantFrames(t, hole, 8, api.Range{From: 2, To: 6}, ranges(0, 2, 6, 8))
	wantFramesError(t, s, 1, api.Range{From: 0, To: 1}, api.ErrNoMem)
	wantFrames(t, s, 1, api.Range{From: 1, To: 1}, ranges(0, 1))
}

// given: is a frame one to give, by the document's words on bytes?
func given(areas []Area, kernel api.Range, frame int) bool {
	first, behind := uint64(frame)*4096, uint64(frame+1)*4096
	usable := false
	for _, a := range areas {
		end := a.From + a.Len
		if a.Len == 0 {
			continue
		}
		if a.Kind == 1 {
			usable = usable || a.From <= first && behind <= end
		} else if a.From < behind && first < end {
			return false
		}
	}
	return usable && (frame < kernel.From || frame >= kernel.To)
}

// someAreas: areas about the first frames, some of whose ends are a frame's, some of which are far off.
func someAreas(rnd *rand.Rand) []Area {
	var all []Area
	number := func() uint64 {
		x := uint64(rnd.Intn(12)) * 4096
		if rnd.Intn(3) == 0 {
			x += uint64(rnd.Intn(4096))
		}
		if rnd.Intn(20) == 0 {
			x += 1 << (20 + rnd.Intn(43))
		}
		return x
	}
	for range 1 + rnd.Intn(6) {
		a := Area{From: number(), Len: number(), Kind: 1}
		if rnd.Intn(3) == 0 {
			a.Kind, a.Len = uint32(rnd.Intn(4)), a.Len/4
		}
		all = append(all, a)
	}
	return all
}

// P6.3: frame by frame, of any map.
func TestFramesByFrames(t *testing.T) {
	rnd := rand.New(rand.NewSource(63))
	for range 20000 {
		areas := someAreas(rnd)
		frames := 1 + rnd.Intn(20)
		kernel := api.Range{From: rnd.Intn(frames + 1)}
		kernel.To = kernel.From + rnd.Intn(frames-kernel.From+1)
		got, e := Frames(bytesOf(areas...), frames, kernel)
		if !fewest(got) || (e == api.OK) != (len(got) > 0) || e != api.OK && e != api.ErrNoMem {
			t.Fatalf("Frames of %+v, %d, %v = %v, %d", areas, frames, kernel, got, e)
		}
		for frame := -1; frame < frames+20; frame++ {
			want := frame >= 0 && frame < frames && given(areas, kernel, frame)
			if has(got, frame) != want {
				t.Fatalf("Frames of %+v, %d, %v = %v: frame %d", areas, frames, kernel, got, frame)
			}
		}
	}
}

// roomy: a list with spare room behind it, in which something stands.
func roomy[T any](l []T, spare T) (whole, given []T) {
	whole = append(slices.Clone(l), spare, spare, spare, spare)
	return whole, whole[:len(l)]
}

// P6.4: what is handed in, and the room behind it, is as it was.
func TestNothingHandedInChanges(t *testing.T) {
	l, lGiven := roomy(ranges(9, 12, 5, 5, 0, 4, 3, 6, 8, 7), api.Range{From: 70, To: 77})
	away, awayGiven := roomy(ranges(10, 11, 1, 2, 2, 2, 1, 3), api.Range{From: 80, To: 88})
	s, sGiven := roomy(bytesOf(Area{0x4000, 0x3000, 1}, Area{0x5000, 1, 2}, Area{0, 0x2000, 1}), 0xee)
	lWas, awayWas, sWas := slices.Clone(l), slices.Clone(away), slices.Clone(s)
	wantMerge(t, lGiven, ranges(0, 6, 9, 12))
	wantLess(t, lGiven, awayGiven, ranges(0, 1, 3, 6, 9, 10, 11, 12))
	wantLess(t, lGiven, lGiven, nil)
	wantAreas(t, sGiven, Area{0x4000, 0x3000, 1}, Area{0x5000, 1, 2}, Area{0, 0x2000, 1})
	wantFrames(t, sGiven, 8, api.Range{From: 0, To: 1}, ranges(1, 2, 4, 5, 6, 7))
	if !slices.Equal(l, lWas) || !slices.Equal(away, awayWas) || !slices.Equal(s, sWas) {
		t.Error("what was handed in has changed")
	}
}

// P6.4: an answer that is written to, to the end of its room, changes neither what was handed in nor another answer; and what was handed in is written to without a change to an answer.
func TestAnswersAreNew(t *testing.T) {
	for _, l := range [][]api.Range{ranges(1, 3), ranges(1, 3, 5, 7), ranges(5, 7, 1, 3)} {
		was := slices.Clone(l)
		calls := []func() []api.Range{
			func() []api.Range { return Merge(l) },
			func() []api.Range { return Less(l, nil) },
			func() []api.Range { return Less(l, ranges(20, 30)) },
		}
		for i, call := range calls {
			first, second := call(), call()
			scribble(first, api.Range{From: 66, To: 67})
			if !slices.Equal(l, was) || !slices.Equal(second, call()) {
				t.Errorf("call %d of %v: the answer is somebody else's memory", i, was)
			}
			own := slices.Clone(second)
			scribble(l, api.Range{From: 68, To: 69})
			if !slices.Equal(second, own) {
				t.Errorf("call %d of %v: the answer is the argument's memory", i, was)
			}
			copy(l, was)
		}
	}
	s := bytesOf(Area{0, 0x2000, 1}, Area{0x4000, 0x3000, 1})
	areas, _ := Parse(s)
	others, _ := Parse(s)
	frames, _ := Frames(s, 8, api.Range{})
	scribble(areas, Area{7, 7, 7})
	scribble(frames, api.Range{From: 7, To: 7})
	if !slices.Equal(others, []Area{{0, 0x2000, 1}, {0x4000, 0x3000, 1}}) {
		t.Error("two answers of Parse share memory")
	}
	wantFrames(t, s, 8, api.Range{}, ranges(0, 2, 4, 7))
}

// scribble writes over a list and the room behind it.
func scribble[T any](l []T, x T) {
	l = l[:cap(l)]
	for i := range l {
		l[i] = x
	}
}
