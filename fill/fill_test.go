package fill

import (
	"archipelago/api"
	"archipelago/drain"
	"math"
	"slices"
	"testing"
)

// ops are all there are.
var ops = []int{api.OpAdd, api.OpXor, api.OpUp, api.OpDown, api.OpAnd, api.OpMore}

// noOps are some of those that there aren't.
var noOps = []int{0, 7, -1, 8, 16, 33, 257, 1<<32 + 1, -1<<32 + 2, math.MinInt, math.MinInt + 1, math.MaxInt}

// picksOf are n picks without a rule, some beyond a worker's number.
func picksOf(seed uint32, n int) [][2]int {
	x := seed*2654435761 + 17
	var l [][2]int
	for range n {
		x = x*1664525 + 1013904223
		l = append(l, [2]int{int(x>>8)%40 - 20, int(x>>16) % 11})
	}
	return l
}

// cellsOf are n cells without a rule, some of them small.
func cellsOf(seed uint32, n int) []uint32 {
	x := seed*2246822519 + 5
	var l []uint32
	for range n {
		x = x*1664525 + 1013904223
		l = append(l, x>>(x>>8%32))
	}
	return l
}

// rightPlans are plans that may be, up to the edges.
func rightPlans() []api.Plan {
	l := []api.Plan{
		{Grain: 1, Workers: 1}, {Grain: 100, Workers: 8}, {Grain: 1, Workers: 8}, {Grain: 100, Workers: 1, Picks: [][2]int{}},
		{Grain: 7, Workers: 3, Picks: [][2]int{{math.MinInt, math.MaxInt}, {math.MaxInt, math.MinInt}, {-1, -1}}},
		{Grain: 1, Workers: 2, Picks: slices.Repeat([][2]int{{1, 1}}, 4000)},
		{Grain: 2, Workers: 4, Picks: slices.Repeat([][2]int{{3, 0}, {2, 3}, {1, 2}}, 20)},
	}
	for seed, n := range []int{1, 5, 30, 300, 3999, 4000} {
		l = append(l, api.Plan{Grain: 1 + seed*seed, Workers: 1 + (seed+3)%8, Picks: picksOf(uint32(seed), n)})
	}
	return l
}

// wrongPlans are plans that may not be, each for one thing alone.
func wrongPlans() []api.Plan {
	l := []api.Plan{{Grain: 1, Workers: 1, Picks: make([][2]int, 4001)}, {Grain: 100, Workers: 8, Picks: make([][2]int, 9000)}}
	for _, grain := range []int{0, -1, 101, 1000, 1<<32 + 1, math.MinInt, math.MaxInt} {
		l = append(l, api.Plan{Grain: grain, Workers: 2}, api.Plan{Grain: grain, Workers: 1, Picks: [][2]int{{0, 0}}})
	}
	for _, workers := range []int{0, -1, 9, 100, 1<<32 + 1, math.MinInt, math.MaxInt} {
		l = append(l, api.Plan{Grain: 2, Workers: workers}, api.Plan{Grain: 100, Workers: workers, Picks: [][2]int{{0, 0}}})
	}
	return append(l, api.Plan{})
}

// phase goes through a phase with spans of units alone: the units as they are done, and how many steps there are.
func phase(n int, p api.Plan) (order []int, steps int) {
	deques := make([][]api.Span, p.Workers)
	deques[0] = []api.Span{{From: 0, To: n}}
	cut := func(i int) int { return (i%p.Workers + p.Workers) % p.Workers }
	step := func(worker, victim int) {
		steps++
		own, other := &deques[cut(worker)], &deques[cut(victim)]
		var s api.Span
		switch {
		case len(*own) > 0:
			s, *own = (*own)[len(*own)-1], (*own)[:len(*own)-1]
		case len(*other) > 0:
			s, *other = (*other)[0], (*other)[1:]
		}
		if s.To-s.From > p.Grain {
			middle := s.From + (s.To-s.From)/2
			*own = append(*own, api.Span{From: middle, To: s.To}, api.Span{From: s.From, To: middle})
			return
		}
		for unit := s.From; unit < s.To; unit++ {
			order = append(order, unit)
		}
	}
	for _, pick := range p.Picks {
		if len(order) < n {
			step(pick[0], pick[1])
		}
	}
	for r := 0; len(order) < n; r++ {
		for worker := 0; worker < p.Workers && len(order) < n; worker++ {
			step(worker, worker+1+r)
		}
	}
	return order, steps
}

// P7.1: Right, up to the edges of each of its three; what the picks are says nothing.
func TestRight(t *testing.T) {
	for i, p := range rightPlans() {
		if !Right(p) {
			t.Error(i)
		}
	}
	for i, p := range wrongPlans() {
		if Right(p) {
			t.Error(i)
		}
	}
}

// P7.1: Order, step for step.
func TestOrder(t *testing.T) {
	for i, x := range []struct {
		n      int
		p      api.Plan
		wanted []int
		steps  int
	}{
		{1, api.Plan{Grain: 1, Workers: 1}, []int{0}, 1},
		{1, api.Plan{Grain: 100, Workers: 8}, []int{0}, 1},
		{4, api.Plan{Grain: 1, Workers: 1}, []int{0, 1, 2, 3}, 7},
		{4, api.Plan{Grain: 4, Workers: 1}, []int{0, 1, 2, 3}, 1},
		{4, api.Plan{Grain: 1, Workers: 3}, []int{1, 2, 0, 3}, 9},
		// The right half is stolen, and done first: its units rise for all that.
		{7, api.Plan{Grain: 4, Workers: 2, Picks: [][2]int{{0, 0}, {1, 0}}}, []int{3, 4, 5, 6, 0, 1, 2}, 3},
		// Idle steps are steps, too; picks behind the end aren't.
		{2, api.Plan{Grain: 1, Workers: 2, Picks: [][2]int{{1, 1}, {1, 1}, {0, 0}, {1, 0}, {3, 2}, {2, 0}}}, []int{1, 0}, 5},
		{2, api.Plan{Grain: 1, Workers: 2, Picks: [][2]int{{0, 0}, {1, 0}, {0, 0}, {0, 0}, {1, 1}}}, []int{1, 0}, 3},
		{3, api.Plan{Grain: 1, Workers: 8, Picks: [][2]int{{1, 1}}}, []int{0, 2, 1}, 17},
	} {
		order, steps, e := Order(x.n, x.p)
		if e != api.OK || !slices.Equal(order, x.wanted) || steps != x.steps {
			t.Error(i, order, steps, e)
		}
	}
}

// P7.1: Order is what a phase comes to, and what layer 6 tells of it, for work of all sizes.
func TestOrderIsAPhase(t *testing.T) {
	for i, p := range rightPlans() {
		for _, n := range []int{1, 2, 3, 8, 23, 100, 101, 257} {
			order, steps, e := Order(n, p)
			wanted, all := phase(n, p)
			if e != api.OK || !slices.Equal(order, wanted) || steps != all {
				t.Error(i, n, steps, all, e)
			}
			c, l, _ := drain.Whole(n, p.Grain, p.Workers, p.Picks)
			at := 0
			for _, s := range drain.Leaves(c, l) {
				for unit := s.From; unit < s.To && at < len(order); unit++ {
					if order[at] != unit {
						t.Fatal(i, n, at)
					}
					at++
				}
			}
			if at != n || steps != c.Steps {
				t.Error(i, n, at, steps, c.Steps)
			}
		}
	}
}

// P7.1: Order, of no units nothing and no steps, of as many as there may be a phase.
func TestOrderEdges(t *testing.T) {
	for i, p := range rightPlans() {
		if order, steps, e := Order(0, p); e != api.OK || len(order) != 0 || steps != 0 {
			t.Error(i, order, steps, e)
		}
	}
	for _, p := range []api.Plan{{Grain: 1, Workers: 1}, {Grain: 100, Workers: 8}, {Grain: 9, Workers: 5, Picks: picksOf(3, 4000)}} {
		for _, n := range []int{999, 1000} {
			order, steps, e := Order(n, p)
			wanted, all := phase(n, p)
			if e != api.OK || !slices.Equal(order, wanted) || steps != all {
				t.Error(n, p.Grain, steps, all, e)
			}
		}
	}
}

// P7.1: ErrArg of Order, and nothing beside it: of so many units there is no phase, or by such a plan, of no units neither.
func TestOrderWrong(t *testing.T) {
	for i, p := range rightPlans() {
		for _, n := range []int{-1, 1001, 5000, 1<<32 + 3, math.MinInt, math.MaxInt} {
			if order, steps, e := Order(n, p); e != api.ErrArg || len(order) != 0 || steps != 0 {
				t.Error(i, n, order, steps, e)
			}
		}
	}
	for i, p := range wrongPlans() {
		for _, n := range []int{0, 1, 2, 50, 1000, -1, 1001, math.MinInt} {
			if order, steps, e := Order(n, p); e != api.ErrArg || len(order) != 0 || steps != 0 {
				t.Error(i, n, order, steps, e)
			}
		}
	}
}

// P7.1: One, of each op.
func TestOne(t *testing.T) {
	const most = math.MaxUint32
	for _, x := range []struct {
		x      uint32
		op     int
		y      uint32
		wanted uint32
	}{
		{0, api.OpAdd, 0, 0}, {1, api.OpAdd, 2, 3}, {most, api.OpAdd, 1, 0}, {most, api.OpAdd, most, most - 1}, {0x80000000, api.OpAdd, 0x80000005, 5},
		{0, api.OpXor, 0, 0}, {12, api.OpXor, 10, 6}, {most, api.OpXor, 1, most - 1}, {most, api.OpXor, most, 0}, {0, api.OpXor, most, most},
		{3, api.OpUp, 0, 3}, {3, api.OpUp, 1, 6}, {3, api.OpUp, 31, 0x80000000}, {3, api.OpUp, 32, 3}, {3, api.OpUp, 33, 6}, {1, api.OpUp, most, 0x80000000}, {most, api.OpUp, 0xfffffff0, 0xffff0000},
		{3, api.OpDown, 0, 3}, {3, api.OpDown, 1, 1}, {most, api.OpDown, 31, 1}, {3, api.OpDown, 32, 3}, {3, api.OpDown, 33, 1}, {0x80000000, api.OpDown, most, 1}, {0x80000000, api.OpDown, 4, 0x08000000}, {most, api.OpDown, 0xfffffff0, 0xffff},
		{12, api.OpAnd, 10, 8}, {most, api.OpAnd, 0x80000001, 0x80000001}, {5, api.OpAnd, 0, 0}, {0x55555555, api.OpAnd, 0xaaaaaaaa, 0},
		{0, api.OpMore, 0, 0}, {1, api.OpMore, 0, 1}, {0, api.OpMore, 1, 0}, {7, api.OpMore, 7, 0}, {most, api.OpMore, 0x7fffffff, 1}, {0x7fffffff, api.OpMore, most, 0}, {most, api.OpMore, most, 0}, {0x80000000, api.OpMore, 1, 1},
	} {
		if got := One(x.x, x.op, x.y); got != x.wanted {
			t.Error(x, got)
		}
	}
	for _, op := range noOps {
		for _, x := range []uint32{0, 1, 5, most} {
			if One(x, op, 3) != 0 || One(x, op, 0) != 0 || One(x, op, most) != 0 {
				t.Error(op, x)
			}
		}
	}
}

// P7.1: the sum, and the shifts, are those of whole numbers, cut to 32 bits.
func TestOneCut(t *testing.T) {
	for seed := range uint32(300) {
		l := cellsOf(seed, 2)
		x, y := l[0], l[1]
		two := uint64(1)
		for range y % 32 {
			two *= 2
		}
		if One(x, api.OpAdd, y) != uint32((uint64(x)+uint64(y))%(1<<32)) || One(x, api.OpUp, y) != uint32(uint64(x)*two%(1<<32)) || One(x, api.OpDown, y) != uint32(uint64(x)/two) {
			t.Error(x, y)
		}
	}
}

// P7.1: Fill, what is done to each cell, and the steps of a phase of as many units as cells.
func TestFill(t *testing.T) {
	if l, steps, e := Fill([]uint32{1, 2, 3}, api.OpAdd, 10, api.Plan{Grain: 1, Workers: 1}); e != api.OK || !slices.Equal(l, []uint32{11, 12, 13}) || steps != 5 {
		t.Error(l, steps, e)
	}
	for i, p := range rightPlans() {
		for _, n := range []int{0, 1, 2, 7, 64} {
			cells := cellsOf(uint32(n+i), n)
			_, wanted, _ := Order(n, p)
			for _, op := range ops {
				for _, y := range []uint32{0, 1, 33, math.MaxUint32, 70000} {
					l, steps, e := Fill(cells, op, y, p)
					if e != api.OK || len(l) != n || steps != wanted {
						t.Fatal(i, n, op, y, l, steps, wanted, e)
					}
					for k, x := range cells {
						if l[k] != One(x, op, y) {
							t.Error(i, n, op, y, k, x, l[k])
						}
					}
				}
			}
		}
	}
}

// P7.1: Zip, what is done to each cell by the one at the same place, and the steps of a phase of as many units as cells.
func TestZip(t *testing.T) {
	a, b := []uint32{1, 2, 3, 40}, []uint32{2, 1, 3, 4}
	for _, x := range []struct {
		op     int
		wanted []uint32
	}{
		{api.OpAdd, []uint32{3, 3, 6, 44}}, {api.OpXor, []uint32{3, 3, 0, 44}}, {api.OpUp, []uint32{4, 4, 24, 640}},
		{api.OpDown, []uint32{0, 1, 0, 2}}, {api.OpAnd, []uint32{0, 0, 3, 0}}, {api.OpMore, []uint32{0, 1, 0, 1}},
	} {
		if l, steps, e := Zip(a, b, x.op, api.Plan{Grain: 1, Workers: 3}); e != api.OK || !slices.Equal(l, x.wanted) || steps != 9 {
			t.Error(x, l, steps, e)
		}
	}
	for i, p := range rightPlans() {
		for _, n := range []int{0, 1, 2, 7, 64} {
			a, b := cellsOf(uint32(n+i), n), cellsOf(uint32(n+i+99), n)
			_, wanted, _ := Order(n, p)
			for _, op := range ops {
				l, steps, e := Zip(a, b, op, p)
				if e != api.OK || len(l) != n || steps != wanted {
					t.Fatal(i, n, op, l, steps, wanted, e)
				}
				for k, x := range a {
					if l[k] != One(x, op, b[k]) {
						t.Error(i, n, op, k, x, b[k], l[k])
					}
				}
			}
		}
	}
}

// P7.1: as many cells as there may be, of both.
func TestGreatest(t *testing.T) {
	p := api.Plan{Grain: 13, Workers: 8, Picks: picksOf(8, 500)}
	for _, n := range []int{999, 1000} {
		cells := cellsOf(4, n)
		l, steps, e := Fill(cells, api.OpXor, 9, p)
		zipped, all, f := Zip(l, cells, api.OpXor, p)
		_, wanted, _ := Order(n, p)
		if e != api.OK || f != api.OK || steps != wanted || all != wanted || !slices.Equal(zipped, slices.Repeat([]uint32{9}, n)) {
			t.Error(n, steps, all, wanted, e, f)
		}
	}
}

// P7.1: ErrArg, and nothing beside it: of no op that there is, of too many cells, by a plan that may not be, of no cells neither.
func TestFillWrong(t *testing.T) {
	good := api.Plan{Grain: 1, Workers: 2}
	none := func(l []uint32, op int, p api.Plan) {
		t.Helper()
		if got, steps, e := Fill(l, op, 3, p); e != api.ErrArg || len(got) != 0 || steps != 0 {
			t.Error(len(l), op, p.Grain, p.Workers, got, steps, e)
		}
		if got, steps, e := Zip(l, slices.Clone(l), op, p); e != api.ErrArg || len(got) != 0 || steps != 0 {
			t.Error(len(l), op, p.Grain, p.Workers, got, steps, e)
		}
	}
	for _, n := range []int{0, 1, 5, 1000, 1001, 3000} {
		for _, op := range noOps {
			none(cellsOf(1, n), op, good)
			none(cellsOf(1, n), op, api.Plan{})
		}
		for _, p := range wrongPlans() {
			none(cellsOf(1, n), api.OpAdd, p)
			none(cellsOf(1, n), api.OpMore, p)
		}
	}
	for _, n := range []int{1001, 1002, 5000} {
		for _, op := range ops {
			none(cellsOf(1, n), op, good)
		}
	}
}

// P7.1: ErrArg of Zip, and nothing beside it: of lists that have not as many cells.
func TestZipUnequal(t *testing.T) {
	for _, x := range [][2]int{{0, 1}, {1, 0}, {3, 4}, {4, 3}, {1000, 999}, {999, 1000}, {1000, 1001}, {1001, 1000}, {0, 2000}} {
		for _, op := range []int{api.OpAdd, api.OpMore, 0, 7} {
			for _, p := range []api.Plan{{Grain: 1, Workers: 2}, {Grain: 100, Workers: 8, Picks: picksOf(1, 9)}, {}} {
				if l, steps, e := Zip(cellsOf(1, x[0]), cellsOf(2, x[1]), op, p); e != api.ErrArg || len(l) != 0 || steps != 0 {
					t.Error(x, op, l, steps, e)
				}
			}
		}
	}
}

// P7.1: no cells, nil or not, are nothing, of no steps.
func TestNoCells(t *testing.T) {
	for i, p := range rightPlans() {
		for _, op := range ops {
			if l, steps, e := Fill([]uint32{}, op, 1, p); e != api.OK || len(l) != 0 || steps != 0 {
				t.Error(i, op, l, steps, e)
			}
			if l, steps, e := Zip(nil, []uint32{}, op, p); e != api.OK || len(l) != 0 || steps != 0 {
				t.Error(i, op, l, steps, e)
			}
		}
	}
}

// P7.2: each unit is done once, whatever the plan, and behind as many steps as tasks at least, as many as the bound and the picks at most.
func TestEachUnitOnce(t *testing.T) {
	for _, n := range []int{1, 2, 5, 17, 100, 201} {
		for _, grain := range []int{1, 2, 3, 16, 99, 100} {
			for workers := 1; workers <= 8; workers++ {
				for seed, picks := range []int{0, 3, 40, 1000} {
					p := api.Plan{Grain: grain, Workers: workers, Picks: picksOf(uint32(seed+n), picks)}
					order, steps, e := Order(n, p)
					slices.Sort(order)
					if e != api.OK || len(order) != n || order[0] != 0 || order[n-1] != n-1 || len(slices.Compact(order)) != n || steps > picks+drain.Bound(n, grain, workers) {
						t.Error(n, grain, workers, picks, steps, e)
					}
				}
			}
		}
	}
}

// P7.2: cells hang on no plan.
func TestWhoeverWorks(t *testing.T) {
	for _, n := range []int{1, 9, 150} {
		a, b := cellsOf(7, n), cellsOf(8, n)
		for _, op := range ops {
			filled, _, _ := Fill(a, op, 21, api.Plan{Grain: 1, Workers: 1})
			zipped, _, _ := Zip(a, b, op, api.Plan{Grain: 1, Workers: 1})
			for i, p := range rightPlans() {
				l, _, _ := Fill(a, op, 21, p)
				m, _, _ := Zip(a, b, op, p)
				if !slices.Equal(l, filled) || !slices.Equal(m, zipped) {
					t.Error(n, op, i)
				}
			}
		}
	}
}

// P7.2: of plans that are alike but for their picks cells are the same, behind all picks of small works, up to so many.
func TestWhateverPicks(t *testing.T) {
	a, b := cellsOf(5, 5), []uint32{3, 0, 40, math.MaxUint32, 1}
	for workers := 1; workers <= 3; workers++ {
		var goOn func(picks [][2]int, more int)
		goOn = func(picks [][2]int, more int) {
			p := api.Plan{Grain: 1, Workers: workers, Picks: picks}
			l, _, e := Fill(a, api.OpAdd, 77, p)
			m, _, f := Zip(a, b, api.OpUp, p)
			for i, x := range a {
				if e != api.OK || f != api.OK || l[i] != x+77 || m[i] != x<<(b[i]%32) {
					t.Fatal(picks, l, m, e, f)
				}
			}
			if more == 0 {
				return
			}
			for worker := range workers {
				for victim := range workers {
					goOn(append(slices.Clone(picks), [2]int{worker, victim}), more-1)
				}
			}
		}
		goOn(nil, 4)
	}
}

// roomy is a list with spare room, that is told apart if something is written there.
func roomy(l []uint32) []uint32 {
	return append(slices.Clone(l), 77, 78, 79)[:len(l)]
}

// kept: is a list that roomy made as it was, with the room behind it?
func kept(l, was []uint32) bool {
	return slices.Equal(l, was) && slices.Equal(l[len(l):len(l)+3], []uint32{77, 78, 79})
}

// P7.1: what is handed in is not changed, nor its spare room; what is answered shares nothing with it.
func TestLeavesArguments(t *testing.T) {
	for _, n := range []int{0, 1, 6, 40} {
		wasA, wasB, wasPicks := cellsOf(3, n), cellsOf(4, n), append(picksOf(9, 12), [2]int{7, 7})
		a, b, picks := roomy(wasA), roomy(wasB), slices.Clone(wasPicks)
		p := api.Plan{Grain: 2, Workers: 3, Picks: picks[:12]}
		for _, op := range append(slices.Clone(ops), 0) {
			l, _, _ := Fill(a, op, 0, p)
			m, _, _ := Zip(a, b, op, p)
			both, _, _ := Zip(a, a, op, p)
			for _, answer := range [][]uint32{l, m, both} {
				answer = answer[:cap(answer)]
				for i := range answer {
					answer[i] = 5555
				}
			}
			if !kept(a, wasA) || !kept(b, wasB) || !slices.Equal(picks, wasPicks) {
				t.Error(n, op)
			}
		}
	}
}

// P7.1: a call hangs on its arguments alone: asked again, behind others, it answers the same.
func TestAskedAgain(t *testing.T) {
	plans := rightPlans()
	first, steps, _ := Order(50, plans[6])
	wanted := slices.Clone(first)
	for i := range first {
		first[i] = -1
	}
	for _, p := range plans {
		Order(50, p)
	}
	if again, more, e := Order(50, plans[6]); e != api.OK || more != steps || !slices.Equal(again, wanted) {
		t.Error(again, more, e)
	}
}
