package scan

import (
	"archipelago/api"
	"archipelago/drain"
	"archipelago/fill"
	"math"
	"slices"
	"testing"
)

// sizes are sizes of blocks, up to the edges.
var sizes = []int{1, 2, 3, 7, 10, 64, 99, 100}

// noSizes are some of those that a block may not have.
var noSizes = []int{0, -1, 101, 102, 1000, 1<<32 + 1, -1<<32 + 5, math.MinInt, math.MinInt + 1, math.MaxInt}

// picksOf are n picks without a rule, some beyond a worker's number.
func picksOf(seed uint32, n int) [][2]int {
	x := seed*2654435761 + 17
	var l [][2]int
	for range n {
		x = x*1664525 + 1013904223
		l = append(l, [2]int{int(x>>8)%40 - 20, int(x>>16) % 11})
	}
	return l
}

// cellsOf are n cells without a rule, some of them small.
func cellsOf(seed uint32, n int) []uint32 {
	x := seed*2246822519 + 5
	var l []uint32
	for range n {
		x = x*1664525 + 1013904223
		l = append(l, x>>(x>>8%32))
	}
	return l
}

// rightPlans are plans that may be, up to the edges.
func rightPlans() []api.Plan {
	l := []api.Plan{
		{Grain: 1, Workers: 1}, {Grain: 100, Workers: 8}, {Grain: 1, Workers: 8}, {Grain: 100, Workers: 1, Picks: [][2]int{}},
		{Grain: 7, Workers: 3, Picks: [][2]int{{math.MinInt, math.MaxInt}, {math.MaxInt, math.MinInt}, {-1, -1}}},
		{Grain: 1, Workers: 2, Picks: slices.Repeat([][2]int{{1, 1}}, 4000)},
		{Grain: 2, Workers: 4, Picks: slices.Repeat([][2]int{{3, 0}, {2, 3}, {1, 2}}, 20)},
	}
	for seed, n := range []int{1, 30, 300, 4000} {
		l = append(l, api.Plan{Grain: 1 + seed*seed, Workers: 1 + (seed+3)%8, Picks: picksOf(uint32(seed), n)})
	}
	return l
}

// wrongPlans are plans that may not be, each for one thing alone.
func wrongPlans() []api.Plan {
	l := []api.Plan{{}, {Grain: 1, Workers: 1, Picks: make([][2]int, 4001)}, {Grain: 100, Workers: 8, Picks: make([][2]int, 9000)}}
	for _, grain := range []int{0, -1, 101, 1<<32 + 1, math.MinInt, math.MaxInt} {
		l = append(l, api.Plan{Grain: grain, Workers: 2, Picks: [][2]int{{0, 0}}})
	}
	for _, workers := range []int{0, -1, 9, 1<<32 + 1, math.MinInt, math.MaxInt} {
		l = append(l, api.Plan{Grain: 2, Workers: workers})
	}
	return l
}

// sumOf is the sum of cells, cut to 32 bits behind the last one alone.
func sumOf(l []uint32) uint32 {
	sum := uint64(0)
	for _, x := range l {
		sum += uint64(x)
	}
	return uint32(sum % (1 << 32))
}

// sumsOf are the sums of all ahead of each, each one made from the beginning on.
func sumsOf(l []uint32) []uint32 {
	sums := make([]uint32, len(l))
	for i := range l {
		sums[i] = sumOf(l[:i])
	}
	return sums
}

// highestOf are the greatest ones up to each, each one looked for from the beginning on.
func highestOf(l []uint32) []uint32 {
	highest := make([]uint32, len(l))
	for i := range l {
		highest[i] = slices.Max(l[:i+1])
	}
	return highest
}

// count is how many blocks there are, counted one behind the other.
func count(n, block int) int {
	blocks := 0
	for at := 0; at < n; at += block {
		blocks++
	}
	return blocks
}

// P8.1: Blocks, of all sizes that there may be, and of as many cells.
func TestBlocks(t *testing.T) {
	for _, x := range [][3]int{
		{0, 1, 0}, {0, 100, 0}, {1, 1, 1}, {1, 100, 1}, {99, 100, 1}, {100, 100, 1}, {101, 100, 2},
		{1000, 1, 1000}, {999, 100, 10}, {1000, 100, 10}, {1000, 99, 11}, {1000, 3, 334}, {7, 3, 3}, {6, 3, 2},
	} {
		if n := Blocks(x[0], x[1]); n != x[2] {
			t.Error(x, n)
		}
	}
	for n := 0; n <= 1000; n++ {
		for block := 1; block <= 100; block++ {
			if got := Blocks(n, block); got != count(n, block) {
				t.Error(n, block, got)
			}
		}
	}
}

// P8.1: Blocks is 0 of other sizes, and of other numbers of cells.
func TestNoBlocks(t *testing.T) {
	for _, block := range noSizes {
		for _, n := range []int{0, 1, 5, 1000, 1001, -1, math.MinInt, math.MaxInt} {
			if got := Blocks(n, block); got != 0 {
				t.Error(n, block, got)
			}
		}
	}
	for _, n := range []int{-1, -100, 1001, 1002, 5000, 1<<32 + 1, -1<<32 + 5, math.MinInt, math.MinInt + 1, math.MaxInt} {
		for _, block := range sizes {
			if got := Blocks(n, block); got != 0 {
				t.Error(n, block, got)
			}
		}
	}
}

// P8.1: Totals, block by block; the last one may have fewer cells.
func TestTotals(t *testing.T) {
	for _, x := range []struct {
		l      []uint32
		block  int
		wanted []uint32
	}{
		{[]uint32{3, 1, 2}, 1, []uint32{3, 1, 2}},
		{[]uint32{3, 1, 2}, 2, []uint32{4, 2}},
		{[]uint32{3, 1, 2}, 3, []uint32{6}},
		{[]uint32{3, 1, 2}, 100, []uint32{6}},
		{[]uint32{math.MaxUint32, 2, math.MaxUint32, math.MaxUint32, 0, 0}, 2, []uint32{1, math.MaxUint32 - 1, 0}},
	} {
		if l := Totals(x.l, x.block); !slices.Equal(l, x.wanted) {
			t.Error(x, l)
		}
	}
	for _, n := range []int{0, 1, 2, 50, 99, 100, 101, 999, 1000} {
		l := cellsOf(uint32(n), n)
		for block := 1; block <= 100; block++ {
			got := Totals(l, block)
			if len(got) != count(n, block) {
				t.Fatal(n, block, len(got))
			}
			for b, total := range got {
				if total != sumOf(l[b*block:min(n, b*block+block)]) {
					t.Error(n, block, b, total)
				}
			}
		}
	}
}

// P8.1: Totals are none where there are no blocks.
func TestNoTotals(t *testing.T) {
	for _, n := range []int{0, 1, 5, 1000, 1001} {
		for _, block := range noSizes {
			if l := Totals(cellsOf(2, n), block); len(l) != 0 {
				t.Error(n, block, l)
			}
		}
	}
	for _, block := range sizes {
		if len(Totals(nil, block)) != 0 || len(Totals([]uint32{}, block)) != 0 || len(Totals(make([]uint32, 1001), block)) != 0 || len(Totals(make([]uint32, 5000), block)) != 0 {
			t.Error(block)
		}
	}
}

// P8.1: Sums and Highest of lists that one can go through by hand.
func TestByHand(t *testing.T) {
	const most = math.MaxUint32
	p := api.Plan{Grain: 1, Workers: 3}
	for _, x := range []struct {
		l, sums []uint32
		total   uint32
		highest []uint32
	}{
		{[]uint32{3, 1, 2}, []uint32{0, 3, 4}, 6, []uint32{3, 3, 3}},
		{[]uint32{0}, []uint32{0}, 0, []uint32{0}},
		{[]uint32{most}, []uint32{0}, most, []uint32{most}},
		{[]uint32{1, 2, 3, 4, 5}, []uint32{0, 1, 3, 6, 10}, 15, []uint32{1, 2, 3, 4, 5}},
		{[]uint32{5, 4, 3, 2, 1}, []uint32{0, 5, 9, 12, 14}, 15, []uint32{5, 5, 5, 5, 5}},
		{[]uint32{0, 0, 7, 0, 7, 8}, []uint32{0, 0, 0, 7, 7, 14}, 22, []uint32{0, 0, 7, 7, 7, 8}},
		{[]uint32{most, 1, most, most}, []uint32{0, most, 0, most}, most - 1, []uint32{most, most, most, most}},
		{[]uint32{0x7fffffff, 0x80000000, 1, 0}, []uint32{0, 0x7fffffff, most, 0}, 0, []uint32{0x7fffffff, 0x80000000, 0x80000000, 0x80000000}},
	} {
		for _, block := range sizes {
			sums, total, _, e := Sums(x.l, block, p)
			highest, _, f := Highest(x.l, block, p)
			if e != api.OK || f != api.OK || total != x.total || !slices.Equal(sums, x.sums) || !slices.Equal(highest, x.highest) {
				t.Error(x, block, sums, total, highest, e, f)
			}
		}
	}
}

// P8.1: steps are twice those of a phase of as many units as blocks.
func TestSteps(t *testing.T) {
	for _, x := range []struct {
		n, block int
		p        api.Plan
		steps    int
	}{
		{1, 1, api.Plan{Grain: 1, Workers: 1}, 2},
		{4, 1, api.Plan{Grain: 1, Workers: 1}, 14},
		{8, 2, api.Plan{Grain: 1, Workers: 1}, 14},
		{7, 2, api.Plan{Grain: 1, Workers: 1}, 14},
		{9, 2, api.Plan{Grain: 1, Workers: 1}, 18},
		{8, 2, api.Plan{Grain: 4, Workers: 1}, 2},
		{8, 2, api.Plan{Grain: 1, Workers: 3}, 18},
		{1000, 100, api.Plan{Grain: 1, Workers: 1}, 38},
		{4, 2, api.Plan{Grain: 1, Workers: 2, Picks: [][2]int{{1, 1}, {1, 1}, {0, 0}, {1, 0}, {3, 2}, {2, 0}}}, 10},
	} {
		_, _, steps, e := Sums(cellsOf(1, x.n), x.block, x.p)
		_, all, f := Highest(cellsOf(1, x.n), x.block, x.p)
		if e != api.OK || f != api.OK || steps != x.steps || all != x.steps {
			t.Error(x.n, x.block, steps, all, e, f)
		}
	}
	for i, p := range rightPlans() {
		for _, n := range []int{1, 2, 9, 100, 205} {
			for _, block := range sizes {
				blocks := count(n, block)
				c, _, _ := drain.Whole(blocks, p.Grain, p.Workers, p.Picks)
				_, once, _ := fill.Order(blocks, p)
				_, _, steps, e := Sums(cellsOf(1, n), block, p)
				_, all, f := Highest(cellsOf(1, n), block, p)
				if e != api.OK || f != api.OK || steps != 2*c.Steps || steps != 2*once || all != steps {
					t.Error(i, n, block, steps, all, once, e, f)
				}
			}
		}
	}
}

// P8.1: Sums and Highest by all plans, of blocks of all sizes.
func TestAllPlans(t *testing.T) {
	for i, p := range rightPlans() {
		for _, n := range []int{1, 2, 3, 10, 64, 101, 230} {
			l := cellsOf(uint32(n+i), n)
			sums, highest := sumsOf(l), highestOf(l)
			for _, block := range sizes {
				s, total, _, e := Sums(l, block, p)
				h, _, f := Highest(l, block, p)
				if e != api.OK || f != api.OK || total != sumOf(l) || !slices.Equal(s, sums) || !slices.Equal(h, highest) {
					t.Error(i, n, block, e, f)
				}
			}
		}
	}
}

// P8.1: behind all picks of small works, up to so many, the sums and the greatest are the same.
func TestWhateverPicks(t *testing.T) {
	l := []uint32{7, math.MaxUint32, 9, 0, 30}
	sums, highest := sumsOf(l), highestOf(l)
	for workers := 1; workers <= 3; workers++ {
		var goOn func(picks [][2]int, more int)
		goOn = func(picks [][2]int, more int) {
			for block := 1; block <= 2; block++ {
				p := api.Plan{Grain: 1, Workers: workers, Picks: picks}
				s, total, _, e := Sums(l, block, p)
				h, _, f := Highest(l, block, p)
				if e != api.OK || f != api.OK || total != 45 || !slices.Equal(s, sums) || !slices.Equal(h, highest) {
					t.Fatal(picks, block, s, total, h, e, f)
				}
			}
			for worker := range workers {
				for victim := 0; more > 0 && victim < workers; victim++ {
					goOn(append(slices.Clone(picks), [2]int{worker, victim}), more-1)
				}
			}
		}
		goOn(nil, 4)
	}
}

// P8.1: as many cells as there may be.
func TestGreatest(t *testing.T) {
	for _, p := range []api.Plan{{Grain: 1, Workers: 1}, {Grain: 100, Workers: 8}, {Grain: 9, Workers: 5, Picks: picksOf(3, 4000)}} {
		for _, n := range []int{999, 1000} {
			l := cellsOf(6, n)
			for _, block := range []int{1, 3, 100} {
				s, total, _, e := Sums(l, block, p)
				h, _, f := Highest(l, block, p)
				if e != api.OK || f != api.OK || total != sumOf(l) || !slices.Equal(s, sumsOf(l)) || !slices.Equal(h, highestOf(l)) {
					t.Error(p.Grain, n, block, e, f)
				}
			}
		}
	}
}

// P8.1: no cells, nil or not, are nothing, of no steps.
func TestNoCells(t *testing.T) {
	for i, p := range rightPlans() {
		for _, block := range sizes {
			for _, l := range [][]uint32{nil, {}} {
				if s, total, steps, e := Sums(l, block, p); e != api.OK || len(s) != 0 || total != 0 || steps != 0 {
					t.Error(i, block, s, total, steps, e)
				}
				if h, steps, e := Highest(l, block, p); e != api.OK || len(h) != 0 || steps != 0 {
					t.Error(i, block, h, steps, e)
				}
			}
		}
	}
}

// refused: do both calls answer ErrArg, and nothing beside it?
func refused(n, block int, p api.Plan) bool {
	s, total, steps, e := Sums(cellsOf(1, n), block, p)
	h, all, f := Highest(cellsOf(1, n), block, p)
	return e == api.ErrArg && f == api.ErrArg && len(s) == 0 && total == 0 && steps == 0 && len(h) == 0 && all == 0
}

// P8.1: ErrArg, and nothing beside it: of blocks of no such size, of too many cells, by a plan that may not be, of no cells neither.
func TestWrong(t *testing.T) {
	good := api.Plan{Grain: 1, Workers: 2}
	for _, n := range []int{0, 1, 5, 1000, 1001, 3000} {
		for _, block := range noSizes {
			if !refused(n, block, good) || !refused(n, block, api.Plan{}) {
				t.Error(n, block)
			}
		}
		for i, p := range wrongPlans() {
			for _, block := range sizes {
				if !refused(n, block, p) {
					t.Error(n, i, block)
				}
			}
		}
	}
	for _, n := range []int{1001, 1002, 1100, 5000} {
		for _, block := range sizes {
			if !refused(n, block, good) || !refused(n, block, api.Plan{Grain: 100, Workers: 8, Picks: picksOf(1, 9)}) {
				t.Error(n, block)
			}
		}
	}
}

// P8.1: Back, of any list, of sums or not.
func TestBack(t *testing.T) {
	const most = math.MaxUint32
	for _, x := range []struct {
		sums   []uint32
		total  uint32
		wanted []uint32
	}{
		{nil, 0, nil}, {nil, 5, nil}, {[]uint32{}, most, nil},
		{[]uint32{0, 3, 4}, 6, []uint32{3, 1, 2}},
		{[]uint32{0}, 7, []uint32{7}}, {[]uint32{0}, 0, []uint32{0}}, {[]uint32{7}, 7, []uint32{0}},
		{[]uint32{5}, 2, []uint32{most - 2}},
		{[]uint32{0, most, 0, most}, most - 1, []uint32{most, 1, most, most}},
		{[]uint32{10, 4, 9}, 8, []uint32{most - 5, 5, most}},
	} {
		if l := Back(x.sums, x.total); !slices.Equal(l, x.wanted) {
			t.Error(x, l)
		}
	}
	for _, n := range []int{1, 2, 50, 1000, 1001, 4000} {
		sums := cellsOf(uint32(n), n)
		l := Back(sums, 99)
		for i, x := range l {
			if next := append(slices.Clone(sums[i+1:]), 99)[0]; x+sums[i] != next {
				t.Error(n, i, x)
			}
		}
		if len(l) != n {
			t.Error(n, len(l))
		}
	}
}

// P8.2: sums and their total tell the cells, whatever the plan, and how great blocks are.
func TestThereAndBack(t *testing.T) {
	for i, p := range rightPlans() {
		for _, n := range []int{0, 1, 2, 33, 100, 150} {
			l := cellsOf(uint32(n+7*i), n)
			for _, block := range sizes {
				sums, total, _, e := Sums(l, block, p)
				if got := Back(sums, total); e != api.OK || !slices.Equal(got, l) {
					t.Error(i, n, block, got, e)
				}
			}
		}
	}
}

// P8.2: so do all small lists of few numbers, and of great ones.
func TestThereAndBackSmall(t *testing.T) {
	numbers := []uint32{0, 1, 0x80000000, math.MaxUint32}
	p := api.Plan{Grain: 1, Workers: 2, Picks: [][2]int{{0, 0}, {1, 0}}}
	for n := 0; n <= 5; n++ {
		lists := 1
		for range n {
			lists *= len(numbers)
		}
		for k := range lists {
			l := make([]uint32, n)
			for i := range l {
				l[i], k = numbers[k%len(numbers)], k/len(numbers)
			}
			sums, total, _, e := Sums(l, 1+n%3, p)
			if got := Back(sums, total); e != api.OK || !slices.Equal(got, l) {
				t.Error(l, got, e)
			}
		}
	}
}

// P8.2: what begins with 0 is the sums of its cells.
func TestBackAndThere(t *testing.T) {
	for seed := range uint32(40) {
		wanted := append([]uint32{0}, cellsOf(seed, int(seed)*3)...)
		for _, block := range sizes {
			sums, total, _, e := Sums(Back(wanted, seed*0x10000001), block, api.Plan{Grain: 3, Workers: 2})
			if e != api.OK || total != seed*0x10000001 || !slices.Equal(sums, wanted) {
				t.Error(seed, block, total, e)
			}
		}
	}
}

// P8.2: how great blocks are says nothing: of all sizes sums, their total and the greatest are those of one.
func TestHoweverGreatBlocks(t *testing.T) {
	l, p := cellsOf(12, 203), api.Plan{Grain: 2, Workers: 3, Picks: picksOf(2, 15)}
	sums, total, _, _ := Sums(l, 1, p)
	highest, _, _ := Highest(l, 1, p)
	for block := 1; block <= 100; block++ {
		s, all, _, e := Sums(l, block, p)
		h, _, f := Highest(l, block, p)
		if e != api.OK || f != api.OK || all != total || !slices.Equal(s, sums) || !slices.Equal(h, highest) || sumOf(Totals(l, block)) != total {
			t.Error(block, e, f)
		}
	}
}

// roomy is a list with spare room, that is told apart if something is written there.
func roomy(l []uint32) []uint32 {
	return append(slices.Clone(l), 77, 78, 79)[:len(l)]
}

// kept: is a list that roomy made as it was, with the room behind it?
func kept(l, was []uint32) bool {
	return slices.Equal(l, was) && slices.Equal(l[len(l):len(l)+3], []uint32{77, 78, 79})
}

// P8.1: what is handed in is not changed, nor its spare room; what is answered shares nothing with it.
func TestLeavesArguments(t *testing.T) {
	for _, n := range []int{0, 1, 6, 40} {
		was, wasPicks := cellsOf(3, n), append(picksOf(9, 12), [2]int{7, 7})
		l, picks := roomy(was), slices.Clone(wasPicks)
		p := api.Plan{Grain: 2, Workers: 3, Picks: picks[:12]}
		for _, block := range []int{0, 1, 2, 40, 100} {
			sums, _, _, _ := Sums(l, block, p)
			highest, _, _ := Highest(l, block, p)
			for _, answer := range [][]uint32{sums, highest, Totals(l, block), Back(l, 3)} {
				answer = answer[:cap(answer)]
				for i := range answer {
					answer[i] = 5555
				}
			}
			if !kept(l, was) || !slices.Equal(picks, wasPicks) {
				t.Error(n, block)
			}
		}
	}
}

// P8.1: a call hangs on its arguments alone: asked again, behind others, it answers the same.
func TestAskedAgain(t *testing.T) {
	l, p := cellsOf(4, 50), api.Plan{Grain: 1, Workers: 4, Picks: picksOf(4, 20)}
	first, total, steps, _ := Sums(l, 3, p)
	for i := range first {
		first[i] = 5555
	}
	for _, other := range rightPlans() {
		Sums(cellsOf(9, 70), 2, other)
		Highest(cellsOf(9, 70), 2, other)
	}
	again, sum, more, e := Sums(l, 3, p)
	if e != api.OK || sum != total || more != steps || !slices.Equal(again, sumsOf(l)) {
		t.Error(again, sum, more, e)
	}
}
