package pack

import (
	"archipelago/api"
	"archipelago/drain"
	"archipelago/fill"
	"archipelago/scan"
	"math"
	"slices"
	"testing"
)

// sizes are sizes of blocks, up to the edges.
var sizes = []int{1, 2, 3, 7, 64, 99, 100}

// noSizes are some of those that a block may not have.
var noSizes = []int{0, -1, 101, 102, 1000, 1<<32 + 1, -1<<32 + 5, math.MinInt, math.MinInt + 1, math.MaxInt}

// picksOf are n picks without a rule, some beyond a worker's number.
func picksOf(seed uint32, n int) [][2]int {
	x := seed*2654435761 + 17
	var l [][2]int
	for range n {
		x = x*1664525 + 1013904223
		l = append(l, [2]int{int(x>>8)%40 - 20, int(x>>16) % 11})
	}
	return l
}

// cellsOf are n cells without a rule, some of them small.
func cellsOf(seed uint32, n int) []uint32 {
	x := seed*2246822519 + 5
	var l []uint32
	for range n {
		x = x*1664525 + 1013904223
		l = append(l, x>>(x>>8%32))
	}
	return l
}

// keepOf are n places without a rule, of which some of four parts are kept, from none (0) to all (4).
func keepOf(seed uint32, n int, parts uint32) []bool {
	x := seed*3266489917 + 11
	var keep []bool
	for range n {
		x = x*1664525 + 1013904223
		keep = append(keep, x>>13%4 < parts)
	}
	return keep
}

// keepsOf are lists of n places each: none kept, all, the first, the last, each second one, and some without a rule.
func keepsOf(n int) [][]bool {
	first, last, second := make([]bool, n), make([]bool, n), make([]bool, n)
	for i := range n {
		first[i], last[i], second[i] = i == 0, i == n-1, i%2 == 1
	}
	l := [][]bool{first, last, second}
	for parts := range uint32(5) {
		l = append(l, keepOf(uint32(n)+parts, n, parts))
	}
	return l
}

// allKeeps are all lists of n places.
func allKeeps(n int) [][]bool {
	var l [][]bool
	for k := range 1 << n {
		keep := make([]bool, n)
		for i := range keep {
			keep[i] = k>>i&1 == 1
		}
		l = append(l, keep)
	}
	return l
}

// rightPlans are plans that may be, up to the edges.
func rightPlans() []api.Plan {
	l := []api.Plan{
		{Grain: 1, Workers: 1}, {Grain: 100, Workers: 8}, {Grain: 1, Workers: 8}, {Grain: 100, Workers: 1, Picks: [][2]int{}},
		{Grain: 7, Workers: 3, Picks: [][2]int{{math.MinInt, math.MaxInt}, {math.MaxInt, math.MinInt}, {-1, -1}}},
		{Grain: 1, Workers: 2, Picks: slices.Repeat([][2]int{{1, 1}}, 4000)},
		{Grain: 2, Workers: 4, Picks: slices.Repeat([][2]int{{3, 0}, {2, 3}, {1, 2}}, 20)},
	}
	for seed, n := range []int{1, 30, 300, 4000} {
		l = append(l, api.Plan{Grain: 1 + seed*seed, Workers: 1 + (seed+3)%8, Picks: picksOf(uint32(seed), n)})
	}
	return l
}

// wrongPlans are plans that may not be, but the first one each for one thing alone.
func wrongPlans() []api.Plan {
	l := []api.Plan{{}, {Grain: 1, Workers: 1, Picks: make([][2]int, 4001)}, {Grain: 100, Workers: 8, Picks: make([][2]int, 9000)}}
	for _, grain := range []int{0, -1, 101, 1<<32 + 1, math.MinInt, math.MaxInt} {
		l = append(l, api.Plan{Grain: grain, Workers: 2, Picks: [][2]int{{0, 0}}})
	}
	for _, workers := range []int{0, -1, 9, 1<<32 + 1, math.MinInt, math.MaxInt} {
		l = append(l, api.Plan{Grain: 2, Workers: workers})
	}
	return l
}

// packed are the cells of those places, and the places, looked for one behind the other: those that are kept, or the others.
func packed(l []uint32, keep []bool, kept bool) (cells []uint32, places []int) {
	for i, x := range l {
		if keep[i] == kept {
			cells, places = append(cells, x), append(places, i)
		}
	}
	return cells, places
}

// holds: do all three calls that a plan is for answer what is to be told of these cells?
func holds(t *testing.T, l []uint32, keep []bool, block int, p api.Plan) {
	t.Helper()
	cells, places := packed(l, keep, true)
	others, _ := packed(l, keep, false)
	if got, _, e := Where(keep, block, p); e != api.OK || !slices.Equal(got, places) {
		t.Error("Where", keep, block, p.Grain, p.Workers, got, e)
	}
	if got, _, e := Pack(l, keep, block, p); e != api.OK || !slices.Equal(got, cells) {
		t.Error("Pack", l, keep, block, p.Grain, p.Workers, got, e)
	}
	if got, n, _, e := Part(l, keep, block, p); e != api.OK || n != len(cells) || !slices.Equal(got, slices.Concat(cells, others)) {
		t.Error("Part", l, keep, block, p.Grain, p.Workers, got, n, e)
	}
}

// takes: do all three calls take so many steps, Part twice as many?
func takes(t *testing.T, keep []bool, block int, p api.Plan, wanted int) {
	t.Helper()
	l := cellsOf(1, len(keep))
	_, where, e := Where(keep, block, p)
	_, pack, f := Pack(l, keep, block, p)
	_, _, part, g := Part(l, keep, block, p)
	if e != api.OK || f != api.OK || g != api.OK || where != wanted || pack != wanted || part != 2*wanted {
		t.Error(len(keep), block, p.Grain, p.Workers, where, pack, part, wanted, e, f, g)
	}
}

// P9.1: lists that one can go through by hand.
func TestByHand(t *testing.T) {
	p := api.Plan{Grain: 1, Workers: 3}
	for _, x := range []struct {
		l      []uint32
		keep   []bool
		places []int
		packed []uint32
		parted []uint32
	}{
		{[]uint32{5, 6, 7}, []bool{true, false, true}, []int{0, 2}, []uint32{5, 7}, []uint32{5, 7, 6}},
		{[]uint32{5, 6, 7}, []bool{false, false, false}, nil, nil, []uint32{5, 6, 7}},
		{[]uint32{5, 6, 7}, []bool{true, true, true}, []int{0, 1, 2}, []uint32{5, 6, 7}, []uint32{5, 6, 7}},
		{[]uint32{9}, []bool{true}, []int{0}, []uint32{9}, []uint32{9}},
		{[]uint32{9}, []bool{false}, nil, nil, []uint32{9}},
		{[]uint32{0, 0, 1, 0}, []bool{false, true, true, false}, []int{1, 2}, []uint32{0, 1}, []uint32{0, 1, 0, 0}},
		{[]uint32{math.MaxUint32, 3, 3, 2, 0x80000000}, []bool{false, true, false, true, false}, []int{1, 3}, []uint32{3, 2}, []uint32{3, 2, math.MaxUint32, 3, 0x80000000}},
		{[]uint32{4, 3, 2, 1, 0}, []bool{false, false, true, true, true}, []int{2, 3, 4}, []uint32{2, 1, 0}, []uint32{2, 1, 0, 4, 3}},
	} {
		for _, block := range sizes {
			places, _, e := Where(x.keep, block, p)
			cells, _, f := Pack(x.l, x.keep, block, p)
			parted, n, _, g := Part(x.l, x.keep, block, p)
			if e != api.OK || f != api.OK || g != api.OK || n != len(x.places) || !slices.Equal(places, x.places) || !slices.Equal(cells, x.packed) || !slices.Equal(parted, x.parted) {
				t.Error(x, block, places, cells, parted, n, e, f, g)
			}
		}
	}
}

// P9.1: by all plans, of blocks of all sizes.
func TestAllPlans(t *testing.T) {
	for i, p := range rightPlans() {
		for _, n := range []int{1, 2, 3, 10, 64, 101, 130} {
			for k, keep := range keepsOf(n) {
				holds(t, cellsOf(uint32(n+i), n), keep, sizes[(i+k)%len(sizes)], p)
			}
		}
	}
	l, p := cellsOf(12, 130), api.Plan{Grain: 2, Workers: 3, Picks: picksOf(2, 15)}
	for block := 1; block <= 100; block++ {
		holds(t, l, keepOf(uint32(block), 130, 2), block, p)
	}
}

// P9.1: whatever is kept of a few places.
func TestAllKeeps(t *testing.T) {
	for n := 0; n <= 8; n++ {
		for _, keep := range allKeeps(n) {
			for _, block := range []int{1, 2, 5} {
				holds(t, cellsOf(uint32(n), n), keep, block, api.Plan{Grain: 1, Workers: 2, Picks: [][2]int{{0, 0}, {1, 0}}})
				holds(t, make([]uint32, n), keep, block, api.Plan{Grain: 2, Workers: 3})
			}
		}
	}
}

// P9.1: behind all picks of small works, up to so many, what is kept is the same.
func TestWhateverPicks(t *testing.T) {
	l, keep := []uint32{7, math.MaxUint32, 9, 0, 30}, []bool{true, false, true, true, false}
	for workers := 1; workers <= 3; workers++ {
		var goOn func(picks [][2]int, more int)
		goOn = func(picks [][2]int, more int) {
			for block := 1; block <= 2; block++ {
				holds(t, l, keep, block, api.Plan{Grain: 1, Workers: workers, Picks: picks})
			}
			for worker := range workers {
				for victim := 0; more > 0 && victim < workers; victim++ {
					goOn(append(slices.Clone(picks), [2]int{worker, victim}), more-1)
				}
			}
		}
		goOn(nil, 4)
	}
}

// P9.1: as many cells as there may be.
func TestGreatest(t *testing.T) {
	for _, p := range []api.Plan{{Grain: 100, Workers: 8}, {Grain: 9, Workers: 5, Picks: picksOf(3, 4000)}} {
		for _, n := range []int{999, 1000} {
			for _, parts := range []uint32{0, 2, 4} {
				for _, block := range []int{1, 100} {
					holds(t, cellsOf(6, n), keepOf(6, n, parts), block, p)
				}
			}
		}
	}
	holds(t, cellsOf(7, 1000), keepOf(7, 1000, 2), 100, api.Plan{Grain: 1, Workers: 1})
}

// P9.1: steps are those of two phases of as many units as blocks, and of one of as many units as places.
func TestSteps(t *testing.T) {
	for _, x := range []struct {
		n, block int
		p        api.Plan
		steps    int
	}{
		{1, 1, api.Plan{Grain: 1, Workers: 1}, 3},
		{4, 1, api.Plan{Grain: 1, Workers: 1}, 21},
		{6, 2, api.Plan{Grain: 1, Workers: 1}, 21},
		{5, 2, api.Plan{Grain: 1, Workers: 1}, 19},
		{6, 100, api.Plan{Grain: 1, Workers: 1}, 13},
		{6, 2, api.Plan{Grain: 6, Workers: 1}, 3},
		{4, 1, api.Plan{Grain: 1, Workers: 3}, 27},
		{300, 100, api.Plan{Grain: 1, Workers: 1}, 609},
		{2, 1, api.Plan{Grain: 1, Workers: 2, Picks: [][2]int{{1, 1}, {1, 1}, {0, 0}, {1, 0}, {3, 2}, {2, 0}}}, 15},
	} {
		for _, parts := range []uint32{0, 2, 4} {
			takes(t, keepOf(1, x.n, parts), x.block, x.p, x.steps)
		}
	}
	for i, p := range rightPlans() {
		for _, n := range []int{1, 2, 9, 101} {
			for _, block := range sizes {
				c, _, _ := drain.Whole(n, p.Grain, p.Workers, p.Picks)
				_, all, _ := fill.Order(n, p)
				_, _, scanned, e := scan.Sums(make([]uint32, n), block, p)
				if e != api.OK || all != c.Steps {
					t.Error(i, n, block, all, c.Steps, e)
				}
				takes(t, keepOf(uint32(i), n, 2), block, p, scanned+all)
			}
		}
	}
}

// P9.1: no cells, nil or not, are nothing, of no steps.
func TestNoCells(t *testing.T) {
	for i, p := range rightPlans() {
		for _, block := range sizes {
			if places, steps, e := Where([]bool{}, block, p); e != api.OK || len(places) != 0 || steps != 0 {
				t.Error(i, block, places, steps, e)
			}
			if cells, steps, e := Pack(nil, []bool{}, block, p); e != api.OK || len(cells) != 0 || steps != 0 {
				t.Error(i, block, cells, steps, e)
			}
			if cells, n, steps, e := Part([]uint32{}, nil, block, p); e != api.OK || len(cells) != 0 || n != 0 || steps != 0 {
				t.Error(i, block, cells, n, steps, e)
			}
			takes(t, nil, block, p, 0)
		}
	}
}

// none: are both calls of cells ErrArg, and nothing beside it?
func none(t *testing.T, l []uint32, keep []bool, block int, p api.Plan) {
	t.Helper()
	if cells, steps, e := Pack(l, keep, block, p); e != api.ErrArg || len(cells) != 0 || steps != 0 {
		t.Error("Pack", len(l), len(keep), block, p.Grain, p.Workers, steps, e)
	}
	if cells, n, steps, e := Part(l, keep, block, p); e != api.ErrArg || len(cells) != 0 || n != 0 || steps != 0 {
		t.Error("Part", len(l), len(keep), block, p.Grain, p.Workers, n, steps, e)
	}
}

// nowhere: are all three calls of so many places ErrArg, and nothing beside it?
func nowhere(t *testing.T, n, block int, p api.Plan) {
	t.Helper()
	for _, keep := range [][]bool{keepOf(3, n, 0), keepOf(3, n, 2), keepOf(3, n, 4)} {
		if places, steps, e := Where(keep, block, p); e != api.ErrArg || len(places) != 0 || steps != 0 {
			t.Error("Where", n, block, p.Grain, p.Workers, steps, e)
		}
		none(t, cellsOf(1, n), keep, block, p)
	}
}

// P9.1: ErrArg, and nothing beside it: of blocks of no such size, of too many places, by a plan that may not be, of no places neither.
func TestWrong(t *testing.T) {
	good := api.Plan{Grain: 1, Workers: 2}
	for _, n := range []int{0, 1, 5, 1000, 1001, 3000} {
		for _, block := range noSizes {
			nowhere(t, n, block, good)
			nowhere(t, n, block, api.Plan{})
		}
		for _, p := range wrongPlans() {
			for _, block := range sizes {
				nowhere(t, n, block, p)
			}
		}
	}
	for _, n := range []int{1001, 1002, 1100, 5000} {
		for _, block := range sizes {
			nowhere(t, n, block, good)
			nowhere(t, n, block, api.Plan{Grain: 100, Workers: 8, Picks: picksOf(1, 9)})
		}
	}
}

// P9.1: ErrArg, and nothing beside it: of cells that aren't as many as places, as many of them as are kept neither.
func TestUnequal(t *testing.T) {
	for _, x := range [][2]int{{0, 1}, {1, 0}, {3, 4}, {4, 3}, {2, 6}, {1000, 999}, {999, 1000}, {1000, 1001}, {1001, 1000}, {0, 2000}, {2000, 0}} {
		for _, keep := range keepsOf(x[1]) {
			for _, p := range []api.Plan{{Grain: 1, Workers: 2}, {Grain: 100, Workers: 8, Picks: picksOf(1, 9)}, {}} {
				for _, block := range []int{1, 7, 100, 0} {
					none(t, cellsOf(2, x[0]), keep, block, p)
				}
			}
		}
	}
}

// P9.1: Spread, of lists that one can go through by hand.
func TestSpread(t *testing.T) {
	const most = math.MaxUint32
	for _, x := range []struct {
		l      []uint32
		keep   []bool
		rest   uint32
		wanted []uint32
	}{
		{nil, nil, 7, nil}, {[]uint32{}, []bool{}, 0, nil},
		{nil, []bool{false, false}, 7, []uint32{7, 7}},
		{[]uint32{5, 7}, []bool{true, false, true}, 6, []uint32{5, 6, 7}},
		{[]uint32{5, 7}, []bool{true, false, true}, 0, []uint32{5, 0, 7}},
		{[]uint32{0, 0}, []bool{true, true}, most, []uint32{0, 0}},
		{[]uint32{9, 8, most}, []bool{false, true, true, false, true, false}, most, []uint32{most, 9, 8, most, most, most}},
	} {
		if got, ok := Spread(x.l, x.keep, x.rest); !ok || !slices.Equal(got, x.wanted) {
			t.Error(x, got, ok)
		}
	}
}

// P9.1: Spread, of as many places as there are, more than other calls take, too: each has its own, or the rest.
func TestSpreadAll(t *testing.T) {
	for _, n := range []int{1, 2, 50, 999, 1000, 1001, 5000} {
		for _, keep := range keepsOf(n) {
			l, _ := packed(cellsOf(5, n), keep, true)
			got, ok := Spread(l, keep, 0x10000001)
			if !ok || len(got) != n {
				t.Fatal(n, ok, len(got))
			}
			cells, _ := packed(got, keep, true)
			others, _ := packed(got, keep, false)
			if !slices.Equal(cells, l) || !slices.Equal(others, slices.Repeat([]uint32{0x10000001}, n-len(l))) {
				t.Error(n, len(l))
			}
		}
	}
}

// P9.1: Spread is none and false of cells that aren't as many as are kept, as many as there are places neither.
func TestSpreadWrong(t *testing.T) {
	for _, n := range []int{0, 1, 2, 7, 1000, 1001} {
		for _, keep := range keepsOf(n) {
			_, places := packed(make([]uint32, n), keep, true)
			for _, cells := range []int{0, 1, len(places) - 1, len(places) + 1, n - len(places), n, n + 1, 3000} {
				if got, ok := Spread(cellsOf(8, max(cells, 0)), keep, 3); ok != (max(cells, 0) == len(places)) || !ok && len(got) != 0 {
					t.Error(n, cells, len(places), len(got), ok)
				}
			}
		}
	}
}

// P9.2: what is packed, spread, is as it was at the places that are kept, whatever the plan; elsewhere it is the rest.
func TestThereAndBack(t *testing.T) {
	for i, p := range rightPlans() {
		for _, n := range []int{0, 1, 2, 33, 130} {
			for k, keep := range keepsOf(n) {
				backAgain(t, cellsOf(uint32(n+7*i), n), keep, sizes[(i+k)%len(sizes)], p)
			}
		}
	}
	for n := 0; n <= 7; n++ {
		for _, keep := range allKeeps(n) {
			backAgain(t, cellsOf(uint32(40+n), n), keep, 1+n%3, api.Plan{Grain: 1, Workers: 2, Picks: [][2]int{{0, 0}, {1, 0}}})
		}
	}
	for _, keep := range keepsOf(1000) {
		backAgain(t, cellsOf(3, 1000), keep, 10, api.Plan{Grain: 30, Workers: 8})
	}
}

// backAgain: are cells that are packed, and spread, as they were; and both parts of them together all there were?
func backAgain(t *testing.T, l []uint32, keep []bool, block int, p api.Plan) {
	t.Helper()
	cells, _, e := Pack(l, keep, block, p)
	back, ok := Spread(cells, keep, 77)
	if e != api.OK || !ok || len(back) != len(l) {
		t.Fatal(l, keep, block, back, e, ok)
	}
	parted, n, _, _ := Part(l, keep, block, p)
	others := make([]bool, len(keep))
	for i, kept := range keep {
		others[i] = !kept
		if kept && back[i] != l[i] || !kept && back[i] != 77 {
			t.Error(l, keep, block, i, back[i])
		}
	}
	one, ok := Spread(parted[:n], keep, 0)
	other, alsoOk := Spread(parted[n:], others, 0)
	for i, x := range l {
		if !ok || !alsoOk || one[i]+other[i] != x {
			t.Fatal(l, keep, block, one, other)
		}
	}
}

// P9.2: what is spread, packed, is as it was, too.
func TestBackAndThere(t *testing.T) {
	for _, n := range []int{0, 1, 5, 64, 300} {
		for _, keep := range keepsOf(n) {
			l, _ := packed(cellsOf(9, n), keep, true)
			all, ok := Spread(l, keep, 5)
			got, _, e := Pack(all, keep, 4, api.Plan{Grain: 3, Workers: 2})
			if !ok || e != api.OK || !slices.Equal(got, l) {
				t.Error(n, keep, got, ok, e)
			}
		}
	}
}

// P9.1: what is handed in is not changed, nor its spare room; what is answered shares nothing with it.
func TestLeavesArguments(t *testing.T) {
	for _, n := range []int{0, 1, 6, 40} {
		for _, wasKeep := range keepsOf(n) {
			wasCells, wasPicks := append(cellsOf(3, n), 77, 78, 79), append(picksOf(9, 12), [2]int{7, 7})
			wasKeep = append(wasKeep, true, false, true)
			cells, keep, picks := slices.Clone(wasCells), slices.Clone(wasKeep), slices.Clone(wasPicks)
			p := api.Plan{Grain: 2, Workers: 3, Picks: picks[:12]}
			for _, block := range []int{0, 1, 2, 40, 100} {
				packed, _, _ := Pack(cells[:n], keep[:n], block, p)
				parted, _, _, _ := Part(cells[:n], keep[:n], block, p)
				spread, _ := Spread(cells[:len(packed)], keep[:n], 4)
				for _, answer := range [][]uint32{packed, parted, spread} {
					answer = answer[:cap(answer)]
					for i := range answer {
						answer[i] = 5555
					}
				}
				Where(keep[:n], block, p)
				if !slices.Equal(cells, wasCells) || !slices.Equal(keep, wasKeep) || !slices.Equal(picks, wasPicks) {
					t.Error(n, block)
				}
			}
		}
	}
}

// P9.1: a call hangs on its arguments alone: asked again, behind others, it answers the same.
func TestAskedAgain(t *testing.T) {
	l, keep, p := cellsOf(4, 50), keepOf(4, 50, 2), api.Plan{Grain: 1, Workers: 4, Picks: picksOf(4, 20)}
	places, steps, _ := Where(keep, 3, p)
	cells, _, _ := Pack(l, keep, 3, p)
	parted, _, _, _ := Part(l, keep, 3, p)
	clear(places)
	clear(cells)
	clear(parted)
	for _, other := range rightPlans() {
		Part(cellsOf(9, 70), keepOf(9, 70, 3), 2, other)
	}
	holds(t, l, keep, 3, p)
	takes(t, keep, 3, p, steps)
}
