package kernel

import (
	"fmt"
	"maps"
	"math"
	"math/rand"
	"reflect"
	"slices"
	"testing"

	"demesne/api"
	"demesne/call"
)

// run is kernels, alike but for their choices and tags, that are asked the same as the flat model, and how often each Op had which error.
type run struct {
	t       *testing.T
	rnd     *rand.Rand
	kernels []*Kernel
	f       *flat
	frames  int // of which the machine's boot left so many
	wild    int // how often, of a hundred, processes begin rather than yield
	tame    int // likewise how often they end
	eager   int // how often they offer pages, beside other calls
	told    map[string]int
}

// clusters: where the pages of the random calls lie, at the edges of tables.
var clusters = []int{0, 0, 0, 508, 1<<18 - 2, 1<<27 - 2, api.TopPage - 4}

func (x *run) self() *plain {
	return x.f.procs[x.f.line[0]]
}

func (x *run) page() int {
	return clusters[x.rnd.Intn(len(clusters))] + x.rnd.Intn(4)
}

// some: a page that the process has, more often than one that it hasn't.
func (x *run) some() int {
	if all := slices.Sorted(maps.Keys(x.self().cells)); len(all) > 0 && x.rnd.Intn(8) > 0 {
		return all[x.rnd.Intn(len(all))]
	}
	return x.page()
}

// dear: a page that the process offers, if there is one; else one that leads somewhere, so that it can.
func (x *run) dear() int {
	var led, offered []int
	for at, c := range x.self().cells {
		if c.bytes != nil {
			led = append(led, at)
		}
	}
	for _, g := range x.f.grants {
		if g.From == x.f.line[0] {
			offered = append(offered, g.Page)
		}
	}
	slices.Sort(led)
	slices.Sort(offered)
	for _, l := range [][]int{offered, led} {
		if len(l) > 0 && x.rnd.Intn(3) > 0 {
			return l[x.rnd.Intn(len(l))]
		}
	}
	return x.some()
}

// who: a process, more often one that is there.
func (x *run) who() int {
	if x.rnd.Intn(8) > 0 {
		return x.f.line[x.rnd.Intn(len(x.f.line))]
	}
	return x.rnd.Intn(16)
}

// grant: more often one that is the process's, from or to it.
func (x *run) grant() uint64 {
	if ids := x.f.of(x.f.line[0]); len(ids) > 0 && x.rnd.Intn(8) > 0 {
		return uint64(ids[x.rnd.Intn(len(ids))])
	}
	return uint64(x.rnd.Intn(256))
}

// number: any word, more often one that is dear to reckoning.
func (x *run) number() uint64 {
	dear := []float64{0, 1, -2, math.MaxFloat64, math.Inf(1), math.NaN()}
	if n := x.rnd.Intn(12); n < len(dear) {
		return math.Float64bits(dear[n])
	}
	return x.rnd.Uint64()
}

// pages: From and how many, of which all are a space's.
func (x *run) pages(from int) (uint64, uint64) {
	return uint64(from), uint64(min(1+x.rnd.Intn(4), api.TopPage-from))
}

// place: an address, and a size that divides it; often the same few, so that what was stored is loaded.
func (x *run) place() (uint64, uint64) {
	size := 1 << x.rnd.Intn(4)
	return uint64(x.some()*page + size*[]int{0, 1, 2, page/size - 1}[x.rnd.Intn(4)]), uint64(size)
}

// turnsOver: now and then processes begin and end, or go on.
func (x *run) turnsOver() call.Words {
	switch n := x.rnd.Intn(100); {
	case n < x.wild:
		return call.Words{call.Spawn, uint64([]int{0, 1, 2, 5, 6, 9, 14, 20, 40, 1 << 20}[x.rnd.Intn(10)])}
	case n < x.wild+x.tame:
		return call.Words{call.Exit}
	}
	return call.Words{call.Yield}
}

// words: a call of the process whose turn it is.
func (x *run) words() call.Words {
	if x.rnd.Intn(100) < x.eager {
		return call.Words{call.Offer, uint64(x.dear()), uint64(x.who()), uint64(x.rnd.Intn(2))}
	}
	n := x.rnd.Intn(100)
	from, many := x.pages(x.some())
	addr, size := x.place()
	switch {
	case n < 8:
		from, many = x.pages(x.page())
		return call.Words{call.Map, from, many, uint64(x.rnd.Intn(4) | x.rnd.Intn(2))}
	case n < 11:
		return call.Words{call.Unmap, from, many}
	case n < 15:
		from, many = x.pages(x.dear())
		return call.Words{call.Protect, from, min(many, uint64(1+x.rnd.Intn(2))), uint64(x.rnd.Intn(4))}
	case n < 29:
		return call.Words{call.Load, addr, size}
	case n < 48:
		return call.Words{call.Store, addr, size, x.rnd.Uint64() >> (64 - 8*size)}
	case n < 58:
		return call.Words{call.Offer, uint64(x.dear()), uint64(x.who()), uint64(x.rnd.Intn(2))}
	case n < 66:
		return call.Words{call.Accept, x.grant(), uint64(x.page())}
	case n < 68:
		return call.Words{call.Revoke, x.grant()}
	case n < 70:
		return call.Words{call.Leave, x.grant()}
	case n < 73:
		return call.Words{call.Handler, addr}
	case n < 77:
		return call.Words{call.Return}
	case n < 79:
		return call.Words{call.Reckon, uint64(x.rnd.Intn(8)), uint64(x.rnd.Intn(4)), uint64(x.rnd.Intn(4)), uint64(x.rnd.Intn(4))}
	case n < 82:
		return call.Words{call.Move, uint64(x.rnd.Intn(4)), x.number()}
	case n < 84:
		return call.Words{uint64(x.rnd.Intn(18)), x.rnd.Uint64() >> x.rnd.Intn(64), uint64(x.rnd.Intn(9)), x.rnd.Uint64() >> x.rnd.Intn(64), uint64(x.rnd.Intn(2))}
	}
	return x.turnsOver()
}

// step: a call or a tick, of each kernel and of the model: they tell the same.
func (x *run) step() {
	if x.rnd.Intn(10) == 0 {
		want := x.f.tick()
		for i, k := range x.kernels {
			if over, e := k.Tick(); over != want || e != api.OK {
				x.t.Fatalf("kernel %d: Tick() = %v, %d; want %v", i, over, e, want)
			}
		}
		x.told[fmt.Sprint("Tick ", want)]++
		return
	}
	w := x.words()
	was := outline(x.kernels[0]) // whether bytes have changed the model will tell
	want := x.f.do(w)
	for i, k := range x.kernels {
		if got := k.Do(w); got != want {
			x.t.Fatalf("kernel %d: Do(%v): %+v; want %+v", i, w, got, want)
		}
	}
	if want.Err != api.OK && !want.Up {
		if now := outline(x.kernels[0]); !reflect.DeepEqual(now, was) {
			x.t.Fatalf("Do(%v), which was refused with %d, has changed it: %+v\nwas %+v", w, want.Err, now, was)
		}
	}
	if want.Err == api.ErrInval {
		w[0] = 0
	}
	x.told[fmt.Sprint(w[0], " ", want.Err)]++
	if want.Up {
		x.told["Up"]++
	}
}

// wantModel: all that may be asked of a kernel is as the model has it.
func (x *run) wantModel(k *Kernel) {
	x.t.Helper()
	free := x.frames
	for pid := -1; pid <= api.MaxProcs; pid++ {
		if x.f.procs[pid] == nil {
			wantNobody(x.t, k, pid)
		} else if v := get(x.t, k, pid); v != x.f.view(pid) {
			x.t.Errorf("Get(%d) = %+v; want %+v", pid, v, x.f.view(pid))
		} else {
			free -= v.Used
		}
		wantGrants(x.t, k, pid, x.f.of(pid)...)
	}
	wantLine(x.t, k, x.f.line...)
	wantFree(x.t, k, free)
	if stale := k.Machine().Stale(); len(stale) > 0 {
		x.t.Errorf("stale: %+v", stale)
	}
	if x.t.Failed() {
		x.t.FailNow()
	}
}

// wantBytes: each page that leads somewhere has the model's bytes, and no other one leads anywhere.
func (x *run) wantBytes(k *Kernel) {
	x.t.Helper()
	for pid, p := range x.f.procs {
		var led []int
		for at, c := range p.cells {
			if c.bytes == nil {
				continue
			}
			led = append(led, at)
			for i, got := range bytesOf(k.Machine(), p.space, at) {
				for b := range 8 {
					if byte(got>>(8*b)) != c.bytes[8*i+b] {
						x.t.Fatalf("process %d, page %d: %x at %d", pid, at, got, 8*i)
					}
				}
			}
		}
		slices.Sort(led)
		if got := k.Machine().Pages(p.space); !slices.Equal(got, led) {
			x.t.Fatalf("process %d: pages %v lead somewhere; want %v", pid, got, led)
		}
	}
}

// wantAllFree: when all processes but 0 have ended, and it has no pages, the free frames are those behind Boot.
func (x *run) wantAllFree(was scene) {
	x.t.Helper()
	for len(x.f.line) > 1 || len(x.f.procs[0].cells) > 0 {
		w := call.Words{call.Exit}
		if x.f.line[0] == 0 {
			w = call.Words{call.Yield}
		}
		if len(x.f.line) == 1 {
			w = call.Words{call.Unmap, uint64(slices.Min(slices.Collect(maps.Keys(x.f.procs[0].cells)))), 1}
		}
		want := x.f.do(w)
		for i, k := range x.kernels {
			if got := k.Do(w); got != want {
				x.t.Fatalf("kernel %d: Do(%v): %+v; want %+v", i, w, got, want)
			}
		}
	}
	for i, k := range x.kernels {
		now := look(k)
		if !reflect.DeepEqual(now.Blocks, was.Blocks) || !slices.Equal(now.Given, was.Given) {
			x.t.Errorf("kernel %d: free %v, were %v", i, now.Blocks, was.Blocks)
		}
	}
}

// plans: the same machine and turns, with unlike choices and tags.
func plans(rnd *rand.Rand, frames, quantum, n int) []Plan {
	all := make([]Plan, 5)
	for i := range all {
		all[i] = plan(frames, quantum)
		all[i].Space.Tags = []int{3, 1, 2, 4095, 16}[i]
	}
	for range n {
		all[1].Choices = append(all[1].Choices, 1+rnd.Intn(2))
		all[2].Choices = append(all[2].Choices, 1)
		all[3].Choices = append(all[3].Choices, rnd.Intn(51))
		if len(all[4].Choices) < n/3 {
			all[4].Choices = append(all[4].Choices, int(rnd.Uint64()))
		}
	}
	return all
}

// P18.1, P18.2, P18.5: any calls and ticks, of kernels with unlike choices, beside a flat model; what is refused changes nothing.
func TestModel(t *testing.T) {
	const steps = 1500
	told := map[string]int{}
	for seed := range int64(24) {
		rnd := rand.New(rand.NewSource(seed))
		frames := []int{14, 40, 120, 400}[seed%4]
		quantum := []int{1, 3, 20}[seed%3]
		x := &run{t: t, rnd: rnd, f: newFlat(frames-3, quantum), frames: frames - 3, wild: []int{15, 30, 60}[seed%3], tame: []int{0, 2, 5, 12}[seed/3%4], eager: []int{0, 0, 25}[seed/4%3], told: told}
		for _, p := range plans(rnd, frames, quantum, steps) {
			x.kernels = append(x.kernels, boot(t, p))
		}
		was := look(x.kernels[0])
		for i := range steps {
			x.step()
			for _, k := range x.kernels {
				x.wantModel(k)
			}
			if i%100 == 99 {
				for _, k := range x.kernels {
					x.wantBytes(k)
				}
			}
		}
		x.wantAllFree(was)
	}
	for _, what := range []string{"1 0", "1 6", "2 0", "2 11", "3 0", "3 5", "3 11", "4 0", "4 8", "4 9", "5 0", "5 8", "5 9", "6 0", "6 4", "6 5", "6 10", "7 0", "7 5", "7 6", "7 8", "7 10", "7 11",
		"8 0", "8 5", "9 0", "9 5", "10 0", "10 11", "11 0", "11 5", "12 0", "12 4", "12 8", "13 0", "13 10", "14 0", "15 0", "16 0", "0 13", "Tick false", "Tick true", "Up"} {
		if told[what] < 10 {
			t.Errorf("%s: %d times only", what, told[what])
		}
	}
}
