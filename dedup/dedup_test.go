package dedup

import (
	"archipelago/api"
	"archipelago/drain"
	"archipelago/pack"
	"archipelago/radix"
	"math"
	"slices"
	"testing"
)

// noVertices are some of those that no key has.
var noVertices = []int{-1, -2, -65536, 65536, 65537, 131071, 1 << 31, 1 << 32, 1<<32 + 5, -1<<32 + 5, math.MinInt, math.MaxInt}

// noBits are some of those that a digit may not have.
var noBits = []int{0, -1, 17, 32, 1<<32 + 8, -1<<32 + 8, math.MinInt, math.MaxInt}

// noSizes are some of those that a block may not have.
var noSizes = []int{0, -1, 101, 1000, 1<<32 + 1, -1<<32 + 5, math.MinInt, math.MaxInt}

// picksOf are n picks without a rule, some beyond a worker's number.
func picksOf(seed uint32, n int) [][2]int {
	x := seed*2654435761 + 17
	var l [][2]int
	for range n {
		x = x*1664525 + 1013904223
		l = append(l, [2]int{int(x>>8)%40 - 20, int(x>>16) % 11})
	}
	return l
}

// amongOf are n keys without a rule, each one of those.
func amongOf(seed uint32, n int, kinds []uint32) []uint32 {
	x := seed*3266489917 + 11
	var l []uint32
	for range n {
		x = x*1664525 + 1013904223
		l = append(l, kinds[int(x>>9)%len(kinds)])
	}
	return l
}

// listsOf are lists of n keys each: few kinds, many kinds, all the same, rising, falling.
func listsOf(n int) [][]uint32 {
	rising, falling, same := make([]uint32, n), make([]uint32, n), make([]uint32, n)
	for i := range n {
		rising[i], falling[i], same[i] = uint32(i)*70001, math.MaxUint32-uint32(i/2)*70001, 0x80018001
	}
	few := []uint32{0, 1, 0x80000000, math.MaxUint32, 0x10000, 0xffff, 0x10001, 2}
	return [][]uint32{amongOf(uint32(n), n, few), amongOf(uint32(n)+1, n, append(rising, falling...)), same, rising, falling}
}

// allLists are all lists of n things, each one of those.
func allLists[T any](n int, kinds []T) [][]T {
	l := [][]T{nil}
	for range n {
		var longer [][]T
		for _, ahead := range l {
			for _, kind := range kinds {
				longer = append(longer, append(slices.Clone(ahead), kind))
			}
		}
		l = longer
	}
	return l
}

// rightWays are ways that may be, up to the edges.
func rightWays() []api.Way {
	l := []api.Way{
		{Bits: 1, Block: 1, Plan: api.Plan{Grain: 1, Workers: 1}},
		{Bits: 16, Block: 100, Plan: api.Plan{Grain: 100, Workers: 8}},
		{Bits: 3, Block: 99, Plan: api.Plan{Grain: 100, Workers: 1, Picks: [][2]int{}}},
		{Bits: 11, Block: 2, Plan: api.Plan{Grain: 7, Workers: 3, Picks: [][2]int{{math.MinInt, math.MaxInt}, {math.MaxInt, math.MinInt}, {-1, -1}}}},
		{Bits: 15, Block: 7, Plan: api.Plan{Grain: 1, Workers: 2, Picks: slices.Repeat([][2]int{{1, 1}}, 4000)}},
		{Bits: 8, Block: 50, Plan: api.Plan{Grain: 2, Workers: 4, Picks: slices.Repeat([][2]int{{3, 0}, {2, 3}, {1, 2}}, 20)}},
	}
	for seed, n := range []int{1, 30, 300, 4000} {
		p := api.Plan{Grain: 1 + seed*seed, Workers: 1 + (seed+3)%8, Picks: picksOf(uint32(seed), n)}
		l = append(l, api.Way{Bits: 4 + 3*seed, Block: 1 + 5*seed, Plan: p})
	}
	return l
}

// wrongWays are ways that may not be, but the first one each for one thing alone.
func wrongWays() []api.Way {
	p := api.Plan{Grain: 2, Workers: 3, Picks: [][2]int{{0, 0}}}
	l := []api.Way{{}, {Bits: 8, Block: 1}, {Bits: 8, Block: 1, Plan: api.Plan{Grain: 1, Workers: 1, Picks: make([][2]int, 4001)}}}
	for _, bits := range noBits {
		l = append(l, api.Way{Bits: bits, Block: 1, Plan: p}, api.Way{Bits: bits, Block: 100, Plan: p})
	}
	for _, block := range noSizes {
		l = append(l, api.Way{Bits: 1, Block: block, Plan: p}, api.Way{Bits: 16, Block: block, Plan: p})
	}
	for _, grain := range []int{0, -1, 101, 1<<32 + 1, math.MinInt, math.MaxInt} {
		l = append(l, api.Way{Bits: 8, Block: 2, Plan: api.Plan{Grain: grain, Workers: 2}})
	}
	for _, workers := range []int{0, -1, 9, 1<<32 + 1, math.MinInt, math.MaxInt} {
		l = append(l, api.Way{Bits: 8, Block: 2, Plan: api.Plan{Grain: 2, Workers: workers}})
	}
	return l
}

// counted are keys, rising, each once, and how many there are of each, from a count of all.
func counted(keys []uint32) (once []uint32, times []int) {
	counts := map[uint32]int{}
	for _, key := range keys {
		counts[key]++
	}
	for key := range counts {
		once = append(once, key)
	}
	slices.Sort(once)
	for _, key := range once {
		times = append(times, counts[key])
	}
	return once, times
}

// stepsOf are the steps of n keys: of a phase of as many units as blocks two for each pass and two more, and one of n units.
func stepsOf(n int, w api.Way) int {
	if n == 0 {
		return 0
	}
	blocks := (n-1)/w.Block + 1
	passes := 31/w.Bits + 1
	scan, _, _ := drain.Whole(blocks, w.Plan.Grain, w.Plan.Workers, w.Plan.Picks)
	all, _, _ := drain.Whole(n, w.Plan.Grain, w.Plan.Workers, w.Plan.Picks)
	return 2*scan.Steps*(passes+1) + all.Steps
}

// holds: do Once and Groups tell the keys as they are counted, and their steps?
func holds(t *testing.T, keys []uint32, w api.Way) {
	t.Helper()
	wanted, wantedTimes := counted(keys)
	wantedSteps := stepsOf(len(keys), w)
	once, steps, e := Once(keys, w)
	if e != api.OK || !slices.Equal(once, wanted) || steps != wantedSteps {
		t.Error("Once", keys, w.Bits, w.Block, once, steps, wantedSteps, e)
	}
	once, times, steps, e := Groups(keys, w)
	if e != api.OK || !slices.Equal(once, wanted) || !slices.Equal(times, wantedTimes) || steps != wantedSteps {
		t.Error("Groups", keys, w.Bits, w.Block, once, times, steps, wantedSteps, e)
	}
}

// P11.1: Key, of edges that one can go through by hand.
func TestKey(t *testing.T) {
	for _, x := range []struct {
		e      api.Edge
		wanted uint32
	}{
		{api.Edge{U: 0, V: 0}, 0}, {api.Edge{U: 0, V: 1}, 1}, {api.Edge{U: 1, V: 0}, 1}, {api.Edge{U: 1, V: 1}, 65537},
		{api.Edge{U: 2, V: 1}, 65538}, {api.Edge{U: 1, V: 2}, 65538}, {api.Edge{U: 63, V: 62}, 62*65536 + 63},
		{api.Edge{U: 65535, V: 0}, 65535}, {api.Edge{U: 0, V: 65535}, 65535}, {api.Edge{U: 65535, V: 1}, 2*65536 - 1},
		{api.Edge{U: 32768, V: 40000}, 32768*65536 + 40000}, {api.Edge{U: 65534, V: 65535}, 0xfffeffff},
		{api.Edge{U: 65535, V: 65535}, math.MaxUint32},
	} {
		if key, ok := Key(x.e); !ok || key != x.wanted {
			t.Error(x, key, ok)
		}
	}
}

// P11.1: an edge has no key, and it is 0, unless both vertices are from 0 to 65535, whichever is the wrong one.
func TestNoKey(t *testing.T) {
	for _, wrong := range noVertices {
		for _, other := range append([]int{0, 1, 5, 65535}, noVertices...) {
			for _, e := range []api.Edge{{U: wrong, V: other}, {U: other, V: wrong}} {
				if key, ok := Key(e); ok || key != 0 {
					t.Error(e, key, ok)
				}
			}
		}
	}
}

// P11.1: Edge, of keys that one can go through by hand, also of those that no edge has.
func TestEdge(t *testing.T) {
	for _, x := range []struct {
		key    uint32
		wanted api.Edge
	}{
		{0, api.Edge{}}, {1, api.Edge{U: 0, V: 1}}, {65535, api.Edge{U: 0, V: 65535}}, {65536, api.Edge{U: 1, V: 0}},
		{65538, api.Edge{U: 1, V: 2}}, {0x00020001, api.Edge{U: 2, V: 1}}, {0x80007fff, api.Edge{U: 32768, V: 32767}},
		{0xffff0000, api.Edge{U: 65535, V: 0}}, {math.MaxUint32, api.Edge{U: 65535, V: 65535}},
	} {
		if e := Edge(x.key); e != x.wanted {
			t.Error(x, e)
		}
	}
}

// P11.1: a key's edge has the key, and whichever vertex is first, the lesser one is in the upper bits.
func TestKeyThereAndBack(t *testing.T) {
	vertices := []int{0, 1, 2, 3, 63, 64, 255, 256, 32767, 32768, 65534, 65535}
	for _, u := range vertices {
		for _, v := range vertices {
			key, ok := Key(api.Edge{U: u, V: v})
			if !ok || Edge(key) != (api.Edge{U: min(u, v), V: max(u, v)}) {
				t.Error(u, v, key, ok)
			}
			if uint64(key) != uint64(min(u, v))*65536+uint64(max(u, v)) {
				t.Error(u, v, key)
			}
		}
	}
}

// P11.1: Once and Groups, of keys that one can go through by hand.
func TestByHand(t *testing.T) {
	for _, x := range []struct {
		keys, once []uint32
		times      []int
	}{
		{nil, nil, nil},
		{[]uint32{}, nil, nil},
		{[]uint32{0}, []uint32{0}, []int{1}},
		{[]uint32{7}, []uint32{7}, []int{1}},
		{[]uint32{0, 0}, []uint32{0}, []int{2}},
		{[]uint32{7, 7, 7}, []uint32{7}, []int{3}},
		{[]uint32{2, 1}, []uint32{1, 2}, []int{1, 1}},
		{[]uint32{2, 1, 2, 3, 1, 2}, []uint32{1, 2, 3}, []int{2, 3, 1}},
		{[]uint32{math.MaxUint32, 0, math.MaxUint32}, []uint32{0, math.MaxUint32}, []int{1, 2}},
		{[]uint32{0x80000000, 0x7fffffff, 0x80000000, 1}, []uint32{1, 0x7fffffff, 0x80000000}, []int{1, 1, 2}},
		{[]uint32{0x10000, 1, 0x10001, 0x10000}, []uint32{1, 0x10000, 0x10001}, []int{1, 2, 1}},
	} {
		for i, w := range rightWays() {
			once, times, _, e := Groups(x.keys, w)
			if e != api.OK || !slices.Equal(once, x.once) || !slices.Equal(times, x.times) {
				t.Error(i, x, once, times, e)
			}
			if once, _, e := Once(x.keys, w); e != api.OK || !slices.Equal(once, x.once) {
				t.Error(i, x, once, e)
			}
		}
	}
}

// P11.1: steps are Sort's and Where's, where one can count them: a phase of n units by one worker has as many as tasks.
func TestStepsByHand(t *testing.T) {
	one := api.Plan{Grain: 1, Workers: 1}
	for _, x := range []struct {
		n, steps int
		w        api.Way
	}{
		{0, 0, api.Way{Bits: 8, Block: 1, Plan: one}},
		{1, 2*2 + 2 + 1, api.Way{Bits: 16, Block: 1, Plan: one}},
		{3, 4*6 + 6 + 5, api.Way{Bits: 8, Block: 2, Plan: one}},
		{3, 4*10 + 10 + 5, api.Way{Bits: 8, Block: 1, Plan: one}},
		{3, 32*2 + 2 + 5, api.Way{Bits: 1, Block: 3, Plan: one}},
		{9, 3*10 + 10 + 17, api.Way{Bits: 11, Block: 4, Plan: one}},
		{9, 7*2 + 2 + 1, api.Way{Bits: 5, Block: 1, Plan: api.Plan{Grain: 100, Workers: 1}}},
		{1000, 2*38 + 38 + 1999, api.Way{Bits: 16, Block: 100, Plan: one}},
	} {
		for _, keys := range listsOf(x.n) {
			if _, steps, e := Once(keys, x.w); e != api.OK || steps != x.steps {
				t.Error("Once", x.n, x.w, steps, x.steps, e)
			}
			if _, _, steps, e := Groups(keys, x.w); e != api.OK || steps != x.steps {
				t.Error("Groups", x.n, x.w, steps, x.steps, e)
			}
		}
	}
}

// P11.1: whatever the way, steps are those of layer 10's Sort, and of layer 9's Where of as many cells, whichever are kept.
func TestSteps(t *testing.T) {
	for i, w := range rightWays() {
		for _, n := range []int{1, 2, 9, 101, 150} {
			_, sort, e := radix.Sort(make([]uint32, n), w.Bits, w.Block, w.Plan)
			_, where, f := pack.Where(make([]bool, n), w.Block, w.Plan)
			if e != api.OK || f != api.OK || sort+where != stepsOf(n, w) {
				t.Fatal(i, n, sort, where, e, f)
			}
			for _, keys := range listsOf(n) {
				if _, steps, e := Once(keys, w); e != api.OK || steps != sort+where {
					t.Error("Once", i, n, steps, sort, where, e)
				}
				if _, _, steps, e := Groups(keys, w); e != api.OK || steps != sort+where {
					t.Error("Groups", i, n, steps, sort, where, e)
				}
			}
		}
	}
}

// P11.1: a list without room for one key more is as any other.
func TestGreatest(t *testing.T) {
	for _, keys := range listsOf(1000) {
		holds(t, keys, api.Way{Bits: 16, Block: 100, Plan: api.Plan{Grain: 100, Workers: 8}})
	}
	holds(t, listsOf(1000)[0], api.Way{Bits: 11, Block: 5, Plan: api.Plan{Grain: 1, Workers: 3, Picks: picksOf(3, 900)}})
}

// P11.2: by all ways that there are, what is told is what is counted.
func TestAllWays(t *testing.T) {
	for _, w := range rightWays() {
		for _, n := range []int{0, 1, 2, 10, 77} {
			for _, keys := range listsOf(n) {
				holds(t, keys, w)
			}
		}
	}
	for bits := 1; bits <= 16; bits++ {
		for _, block := range []int{1, 2, 3, 20, 99, 100} {
			for _, keys := range listsOf(30) {
				holds(t, keys, api.Way{Bits: bits, Block: block, Plan: api.Plan{Grain: 2, Workers: 3, Picks: picksOf(2, 15)}})
			}
		}
	}
}

// P11.2: whatever a few keys are.
func TestAllLists(t *testing.T) {
	for n := 0; n <= 4; n++ {
		for _, keys := range allLists(n, []uint32{0, 1, 0x10000, math.MaxUint32}) {
			for _, bits := range []int{1, 8, 16} {
				holds(t, keys, api.Way{Bits: bits, Block: 2, Plan: api.Plan{Grain: 1, Workers: 2, Picks: [][2]int{{0, 0}, {1, 0}}}})
			}
		}
	}
}

// P11.2: what is told rises, each of it is there, each that is there is told, and all are counted.
func TestEachOnce(t *testing.T) {
	w := api.Way{Bits: 6, Block: 9, Plan: api.Plan{Grain: 4, Workers: 3, Picks: picksOf(6, 10)}}
	for _, n := range []int{1, 2, 31, 300, 1000} {
		for _, keys := range listsOf(n) {
			once, times, _, e := Groups(keys, w)
			if e != api.OK || len(once) != len(times) {
				t.Fatal(n, len(once), len(times), e)
			}
			all := 0
			for i, key := range once {
				if i > 0 && key <= once[i-1] || !slices.Contains(keys, key) || times[i] < 1 {
					t.Error(n, i, key, times[i])
				}
				all += times[i]
			}
			if all != n {
				t.Error(n, all)
			}
			for _, key := range keys {
				if !slices.Contains(once, key) {
					t.Error(n, key)
				}
			}
		}
	}
}

// P11.2: what is told once is told again as it is, one of each; in whatever order keys stand, the same is told.
func TestAgain(t *testing.T) {
	for _, w := range rightWays() {
		for _, keys := range listsOf(60) {
			once, times, _, _ := Groups(keys, w)
			again, ones, _, e := Groups(once, w)
			if e != api.OK || !slices.Equal(again, once) || slices.ContainsFunc(ones, func(n int) bool { return n != 1 }) {
				t.Error(keys, again, ones, e)
			}
			turned := slices.Clone(keys)
			slices.Reverse(turned)
			again, others, _, e := Groups(turned, w)
			if e != api.OK || !slices.Equal(again, once) || !slices.Equal(others, times) {
				t.Error(keys, again, others, e)
			}
		}
	}
}

// refused: are Once and Groups ErrArg, and nothing beside it?
func refused(t *testing.T, keys []uint32, w api.Way) {
	t.Helper()
	if once, steps, e := Once(keys, w); e != api.ErrArg || len(once) != 0 || steps != 0 {
		t.Error("Once", len(keys), w.Bits, w.Block, w.Plan.Grain, w.Plan.Workers, len(once), steps, e)
	}
	if once, times, steps, e := Groups(keys, w); e != api.ErrArg || len(once) != 0 || len(times) != 0 || steps != 0 {
		t.Error("Groups", len(keys), w.Bits, w.Block, w.Plan.Grain, w.Plan.Workers, len(once), len(times), steps, e)
	}
}

// P11.1: ErrArg, and nothing beside it: by ways that may not be, of no keys too, and of too many keys, the same ones too.
func TestWrong(t *testing.T) {
	for _, w := range wrongWays() {
		for _, n := range []int{0, 1, 5, 1000, 1001} {
			refused(t, amongOf(1, n, []uint32{7, 8, 9}), w)
		}
	}
	for _, w := range rightWays() {
		for _, n := range []int{1001, 1002, 3000} {
			for _, keys := range listsOf(n) {
				refused(t, keys, w)
			}
		}
	}
}

// edgesHold: does Edges tell just those edges, and as many steps as so many keys have?
func edgesHold(t *testing.T, l, wanted []api.Edge, n int, w api.Way) {
	t.Helper()
	wantedSteps := stepsOf(n, w)
	if edges, steps, e := Edges(l, w); e != api.OK || !slices.Equal(edges, wanted) || steps != wantedSteps {
		t.Error(l, w.Bits, w.Block, edges, wanted, steps, wantedSteps, e)
	}
}

// P11.1: Edges, of lists that one can go through by hand.
func TestEdgesByHand(t *testing.T) {
	for _, x := range []struct {
		l, wanted []api.Edge
		keys      int
	}{
		{nil, nil, 0},
		{[]api.Edge{}, nil, 0},
		{[]api.Edge{{U: 2, V: 1}, {U: 1, V: 2}, {U: 3, V: 3}}, []api.Edge{{U: 1, V: 2}}, 2},
		{[]api.Edge{{U: 0, V: 0}}, nil, 0},
		{[]api.Edge{{U: 65535, V: 65535}, {U: 7, V: 7}, {U: 7, V: 7}}, nil, 0},
		{[]api.Edge{{U: 65535, V: 0}}, []api.Edge{{U: 0, V: 65535}}, 1},
		{[]api.Edge{{U: 5, V: 4}, {U: 4, V: 3}, {U: 3, V: 5}}, []api.Edge{{U: 3, V: 4}, {U: 3, V: 5}, {U: 4, V: 5}}, 3},
		{[]api.Edge{{U: 1, V: 300}, {U: 2, V: 3}, {U: 300, V: 1}, {U: 2, V: 2}}, []api.Edge{{U: 1, V: 300}, {U: 2, V: 3}}, 3},
		{[]api.Edge{{U: 65535, V: 65534}, {U: 0, V: 1}, {U: 0, V: 65535}, {U: 1, V: 0}}, []api.Edge{{U: 0, V: 1}, {U: 0, V: 65535}, {U: 65534, V: 65535}}, 4},
	} {
		for _, w := range rightWays() {
			edgesHold(t, x.l, x.wanted, x.keys, w)
		}
	}
}

// edgesOf are edges, each once and rising, looked for pair by pair, and how many aren't from a vertex to itself.
func edgesOf(l []api.Edge, vertices []int) (edges []api.Edge, n int) {
	for i, u := range vertices {
		for _, v := range vertices[i+1:] {
			if slices.Contains(l, api.Edge{U: u, V: v}) || slices.Contains(l, api.Edge{U: v, V: u}) {
				edges = append(edges, api.Edge{U: u, V: v})
			}
		}
	}
	for _, e := range l {
		if e.U != e.V {
			n++
		}
	}
	return edges, n
}

// P11.2: Edges, of all lists of a few, and of more over more vertices.
func TestEdges(t *testing.T) {
	few := []int{0, 5, 65535}
	var kinds []api.Edge
	for _, u := range few {
		for _, v := range few {
			kinds = append(kinds, api.Edge{U: u, V: v})
		}
	}
	for n := 0; n <= 3; n++ {
		for _, l := range allLists(n, kinds) {
			wanted, keys := edgesOf(l, few)
			edgesHold(t, l, wanted, keys, api.Way{Bits: 16, Block: 3, Plan: api.Plan{Grain: 1, Workers: 2}})
		}
	}
	vertices := []int{0, 1, 2, 3, 8, 255, 256, 257, 40000, 65534, 65535}
	for i, w := range rightWays() {
		for _, n := range []int{1, 10, 200} {
			var l []api.Edge
			for _, x := range amongOf(uint32(i+n), n, listsOf(300)[1]) {
				l = append(l, api.Edge{U: vertices[x>>3%11], V: vertices[x>>12%11]})
			}
			wanted, keys := edgesOf(l, vertices)
			edgesHold(t, l, wanted, keys, w)
		}
	}
}

// noEdges: is that the error of Edges, and nothing beside it?
func noEdges(t *testing.T, l []api.Edge, w api.Way, wanted api.Errno) {
	t.Helper()
	if edges, steps, e := Edges(l, w); e != wanted || len(edges) != 0 || steps != 0 {
		t.Error(len(l), w.Bits, w.Block, w.Plan.Grain, w.Plan.Workers, len(edges), steps, e, wanted)
	}
}

// P11.1: ErrNode, and nothing beside it, wherever an edge has no key, from a vertex to itself too, and ahead of all other errors.
func TestEdgesNode(t *testing.T) {
	good := api.Way{Bits: 8, Block: 2, Plan: api.Plan{Grain: 1, Workers: 1}}
	for _, n := range []int{0, 1, 4, 999, 1000, 1500} {
		l := slices.Repeat([]api.Edge{{U: 1, V: 2}}, n)
		for _, wrong := range noVertices {
			for _, e := range []api.Edge{{U: wrong, V: 1}, {U: 1, V: wrong}, {U: wrong, V: wrong}} {
				for _, spot := range []int{0, n / 2, n} {
					longer := slices.Insert(slices.Clone(l), spot, e)
					for _, w := range []api.Way{good, {}, {Bits: 8, Block: 0, Plan: good.Plan}} {
						noEdges(t, longer, w, api.ErrNode)
					}
				}
			}
		}
	}
}

// P11.1: ErrArg, and nothing beside it, by ways that may not be, whatever edges there are, and of too many keys.
func TestEdgesWrong(t *testing.T) {
	for _, w := range wrongWays() {
		for _, n := range []int{0, 1, 5, 1000, 1001} {
			noEdges(t, slices.Repeat([]api.Edge{{U: 4, V: 4}}, n), w, api.ErrArg)
			noEdges(t, slices.Repeat([]api.Edge{{U: 4, V: 3}}, n), w, api.ErrArg)
		}
	}
	for _, w := range rightWays() {
		same := slices.Repeat([]api.Edge{{U: 9, V: 3}}, 1001)
		noEdges(t, same, w, api.ErrArg)
		noEdges(t, append(same, api.Edge{U: 1, V: 1}), w, api.ErrArg)
	}
}

// P11.1: those from a vertex to itself aren't of the keys: of however many the others are told.
func TestEdgesOfManyLoops(t *testing.T) {
	for _, w := range rightWays() {
		loops := slices.Repeat([]api.Edge{{U: 4, V: 4}, {U: 65535, V: 65535}}, 1000)
		edgesHold(t, loops, nil, 0, w)
		edgesHold(t, append(loops, api.Edge{U: 5, V: 4}), []api.Edge{{U: 4, V: 5}}, 1, w)
		edgesHold(t, append(loops, slices.Repeat([]api.Edge{{U: 5, V: 4}}, 1000)...), []api.Edge{{U: 4, V: 5}}, 1000, w)
	}
}

// P11.1: Without, of lists that one can go through by hand.
func TestWithoutByHand(t *testing.T) {
	for _, x := range []struct{ a, b, wanted []uint32 }{
		{nil, nil, nil},
		{nil, []uint32{1, 2}, nil},
		{[]uint32{}, []uint32{}, nil},
		{[]uint32{2, 1, 2}, nil, []uint32{2, 1, 2}},
		{[]uint32{3, 1, 2}, []uint32{1}, []uint32{3, 2}},
		{[]uint32{3, 1, 3, 1}, []uint32{1, 1, 7}, []uint32{3, 3}},
		{[]uint32{0, math.MaxUint32, 0}, []uint32{math.MaxUint32}, []uint32{0, 0}},
		{[]uint32{0, math.MaxUint32}, []uint32{0}, []uint32{math.MaxUint32}},
		{[]uint32{9, 8, 7}, []uint32{7, 8, 9}, nil},
		{[]uint32{5}, []uint32{0x10005, 4, 6}, []uint32{5}},
	} {
		if l := Without(x.a, x.b); !slices.Equal(l, x.wanted) {
			t.Error(x, l)
		}
	}
}

// P11.1: Without, of all lists of a few keys, and of more than others take.
func TestWithout(t *testing.T) {
	lists := [][]uint32{}
	for n := 0; n <= 3; n++ {
		lists = append(lists, allLists(n, []uint32{0, 1, 0x10000, math.MaxUint32})...)
	}
	for _, n := range []int{50, 2000} {
		lists = append(lists, listsOf(n)...)
	}
	for _, a := range lists {
		for _, b := range lists {
			wanted := slices.DeleteFunc(slices.Clone(a), func(key uint32) bool { return slices.Contains(b, key) })
			if l := Without(a, b); !slices.Equal(l, wanted) {
				t.Error(len(a), len(b), len(l), len(wanted))
			}
		}
	}
}

// spoil changes all that a list has, its spare room too.
func spoil[T any](l []T, by T) {
	l = l[:cap(l)]
	for i := range l {
		l[i] = by
	}
}

// P11.1: what is handed in is not changed, nor its spare room; what is answered shares nothing with it, and two lists of one answer nothing with each other.
func TestLeavesArguments(t *testing.T) {
	for _, n := range []int{0, 1, 6, 40} {
		for k, wasKeys := range listsOf(n) {
			wasKeys, wasPicks := append(wasKeys, 77, 78, 79), append(picksOf(9, 12), [2]int{7, 7})
			wasEdges := []api.Edge{{U: 9, V: 8}, {U: 1, V: 2}}
			for _, key := range wasKeys {
				wasEdges = append(wasEdges, api.Edge{U: Edge(key).V, V: Edge(key).U})
			}
			keys, picks, edges := slices.Clone(wasKeys), slices.Clone(wasPicks), slices.Clone(wasEdges)
			for _, bits := range []int{0, 1 + k, 16} {
				w := api.Way{Bits: bits, Block: 3, Plan: api.Plan{Grain: 2, Workers: 3, Picks: picks[:12]}}
				once, _, _ := Once(keys[:n], w)
				groups, times, _, _ := Groups(keys[:n], w)
				told, _, _ := Edges(edges[:n+2], w)
				rest := Without(keys[:n], keys[:n/2])
				rest2 := Without(keys[:n], nil)
				wasTimes := slices.Clone(times)
				spoil(once, 5555)
				spoil(groups, 5555)
				spoil(told, api.Edge{U: 5, V: 5})
				spoil(rest, 5555)
				spoil(rest2, 5555)
				if !slices.Equal(keys, wasKeys) || !slices.Equal(picks, wasPicks) || !slices.Equal(edges, wasEdges) || !slices.Equal(times, wasTimes) {
					t.Error(n, k, bits)
				}
			}
		}
	}
}

// P11.1: a call hangs on its arguments alone: asked again, behind others, it answers the same.
func TestAskedAgain(t *testing.T) {
	keys, w := listsOf(50)[0], rightWays()[7]
	once, times, _, _ := Groups(keys, w)
	clear(once)
	clear(times)
	for _, other := range rightWays() {
		Groups(listsOf(70)[1], other)
		Edges([]api.Edge{{U: 3, V: 2}}, other)
	}
	Without(keys, keys)
	holds(t, keys, w)
}
