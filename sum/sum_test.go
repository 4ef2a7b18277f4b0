package sum

import (
	"archipelago/api"
	"archipelago/tower"
	"math"
	"slices"
	"testing"
)

// most is the greatest weight.
const most = 1073741824

// noWeights are some numbers that no weight is.
var noWeights = []int{most + 1, -most - 1, 1 << 31, -1 << 31, 1 << 32, 1<<32 + 5, -1<<32 + 5, math.MaxInt, math.MinInt, math.MinInt + 1}

// noPlaces are some numbers that no place is, of n.
func noPlaces(n int) []int {
	return []int{-1, n, -n, n + 1, 1 << 31, 1 << 32, -1 << 32, math.MinInt, math.MaxInt}
}

// made is a tower of those heights.
func made(t *testing.T, heights ...int) api.Tower {
	t.Helper()
	tokens := make([]int, len(heights))
	for place := range tokens {
		tokens[place] = 10000 - 3*place
	}
	x, e := tower.Build(tokens, heights)
	if e != api.OK {
		t.Fatal(heights, e)
	}
	return x
}

// built are the sums of those weights.
func built(t *testing.T, x api.Tower, weights []int) [][]int {
	t.Helper()
	sums, e := Build(x, weights)
	if e != api.OK {
		t.Fatal(x, weights, e)
	}
	return sums
}

// allLists are all lists of n numbers, each one of those.
func allLists(n int, kinds ...int) [][]int {
	l := [][]int{nil}
	for range n {
		var longer [][]int
		for _, ahead := range l {
			for _, kind := range kinds {
				longer = append(longer, append(slices.Clone(ahead), kind))
			}
		}
		l = longer
	}
	return l
}

// smallTowers are all towers of one up to five nodes, of heights 1, 2, 3 and 8.
func smallTowers(t *testing.T) []api.Tower {
	var l []api.Tower
	for n := 1; n <= 5; n++ {
		for _, heights := range allLists(n, 1, 2, 3, 8) {
			l = append(l, made(t, heights...))
		}
	}
	return l
}

// longTowers are some of many nodes: low ones and high ones mixed, few high ones, high ones in the midst, and all of one height.
func longTowers(t *testing.T) []api.Tower {
	var l []api.Tower
	for _, n := range []int{17, 60, 300} {
		mixed, rare, midst := make([]int, n), make([]int, n), make([]int, n)
		for i := range n {
			mixed[i] = 1 + i*i*7%11%8
			rare[i] = 1 + i%2
			midst[i] = 1 + min(i, n-1-i)%8
		}
		rare[1], rare[n-1] = 7, 8
		l = append(l, made(t, mixed...), made(t, rare...), made(t, midst...), made(t, slices.Repeat([]int{1}, n)...), made(t, slices.Repeat([]int{8}, n)...))
	}
	return l
}

// unlike are n weights below 0, 0 and above it, of which many lists add up to other sums.
func unlike(n int) []int {
	l := make([]int, n)
	for i := range n {
		l[i] = (i*i*31+i*17+5)%401 - 150
	}
	if n > 3 {
		l[1], l[n-2] = most, -most
	}
	return l
}

// added: step by step, the weights from a place on up to another one, at least one of them.
func added(weights []int, from, to int) int {
	sum := 0
	for at := from; ; {
		sum += weights[at]
		at++
		if at == len(weights) {
			at = 0
		}
		if at == to {
			return sum
		}
	}
}

// wanted are all sums, each added up step by step.
func wanted(x api.Tower, weights []int) [][]int {
	var l [][]int
	for place, nexts := range x.Next {
		var row []int
		for _, next := range nexts {
			row = append(row, added(weights, place, next))
		}
		l = append(l, row)
	}
	return l
}

// equal: are all sums the same?
func equal(a, b [][]int) bool {
	return slices.EqualFunc(a, b, slices.Equal)
}

// copied: lists of memory of their own.
func copied(l [][]int) [][]int {
	var all [][]int
	for _, row := range l {
		all = append(all, slices.Clone(row))
	}
	return all
}

// nodes: the places from one on up to another one, without this, at least one of them.
func nodes(n, from, to int) []int {
	var l []int
	for at := from; len(l) == 0 || at != to; {
		l = append(l, at)
		at++
		if at == n {
			at = 0
		}
	}
	return l
}

// looks: how many sums are looked at from a place up to another one, level by level from above, by the nodes that each one is of.
func looks(x api.Tower, from, to int) int {
	count := 0
	for at := from; at != to; count++ {
		left := nodes(len(x.Next), at, to)
		for level := len(x.Next[at]) - 1; ; level-- {
			over := nodes(len(x.Next), at, x.Next[at][level])
			if len(over) <= len(left) {
				at = x.Next[at][level]
				break
			}
		}
	}
	return count
}

// wrongTowers are towers that aren't right, each but for one thing; all but the first three have the nodes of heights 1, 2 and 1.
func wrongTowers(t *testing.T) []api.Tower {
	l := []api.Tower{{}, {Tokens: []int{1}, Heights: []int{1}}, {Tokens: []int{}, Heights: []int{}, Next: [][]int{}}}
	change := func(f func(x *api.Tower)) {
		x := made(t, 1, 2, 1)
		f(&x)
		l = append(l, x)
	}
	for place := range 3 {
		change(func(x *api.Tower) { x.Tokens[place] = -1 })
		change(func(x *api.Tower) { x.Tokens[place] = 10001 })
		change(func(x *api.Tower) { x.Tokens[place] = x.Tokens[(place+1)%3] })
		change(func(x *api.Tower) { x.Heights[place] = 0 })
		change(func(x *api.Tower) { x.Heights[place] = 9 })
		change(func(x *api.Tower) { x.Heights[place] = 3 })
		change(func(x *api.Tower) { x.Next[place] = nil })
		change(func(x *api.Tower) { x.Next[place] = append(x.Next[place], 0) })
		change(func(x *api.Tower) { x.Next[place][0] = place })
		change(func(x *api.Tower) { x.Next[place][0] = -1 })
		change(func(x *api.Tower) { x.Next[place][0] = math.MaxInt })
	}
	change(func(x *api.Tower) { x.Tokens = x.Tokens[:2] })
	change(func(x *api.Tower) { x.Heights = x.Heights[:2] })
	change(func(x *api.Tower) { x.Next = x.Next[:2] })
	change(func(x *api.Tower) { x.Tokens = append(x.Tokens, 4) })
	change(func(x *api.Tower) { x.Next = append(x.Next, []int{0}) })
	return l
}

// wrongSums are lists that aren't the sums of the tower, most of them but for one thing.
func wrongSums(t *testing.T, x api.Tower, weights []int) [][][]int {
	good := built(t, x, weights)
	n := len(good)
	l := [][][]int{nil, {}, {{}}, {nil}, make([][]int, n), good[:n-1], good[1:], append(copied(good), []int{}), append(copied(good), []int{1}), append([][]int{good[n-1]}, good...)}
	for place, row := range good {
		for level := range row {
			for _, by := range []int{1, -1, 1 << 32, 2*most + 1, math.MinInt} {
				bad := copied(good)
				bad[place][level] += by
				// A sum of level 0 that no other one adds up may be any weight.
				if !addUp(x, bad) {
					l = append(l, bad)
				}
			}
		}
		for _, other := range [][]int{nil, {}, row[:len(row)-1], append(slices.Clone(row), row[0]), append(slices.Clone(row), 0), append([]int{0}, row...)} {
			bad := copied(good)
			bad[place] = other
			l = append(l, bad)
		}
	}
	return l
}

// addUp: are sums, as many as there must be, those of their own weights, each of which may be?
func addUp(x api.Tower, sums [][]int) bool {
	var weights []int
	for _, row := range sums {
		if row[0] < -most || row[0] > most {
			return false
		}
		weights = append(weights, row[0])
	}
	return equal(sums, wanted(x, weights))
}

// P16.1: Build, of towers whose sums one can add up by hand.
func TestBuildByHand(t *testing.T) {
	for _, x := range []struct {
		heights, weights []int
		sums             [][]int
	}{
		{[]int{1}, []int{7}, [][]int{{7}}},
		{[]int{3}, []int{-7}, [][]int{{-7, -7, -7}}},
		{[]int{1, 1}, []int{5, 1}, [][]int{{5}, {1}}},
		{[]int{1, 2}, []int{5, 1}, [][]int{{5}, {1, 6}}},
		{[]int{2, 2}, []int{5, 1}, [][]int{{5, 5}, {1, 1}}},
		{[]int{1, 1, 1}, []int{5, 1, 2}, [][]int{{5}, {1}, {2}}},
		{[]int{1, 3, 2}, []int{5, 1, 2}, [][]int{{5}, {1, 1, 8}, {2, 7}}},
		{[]int{3, 1, 2}, []int{0, -4, 4}, [][]int{{0, -4, 0}, {-4}, {4, 4}}},
		{[]int{2, 1, 3, 1, 2}, []int{1, 2, 4, 8, 16}, [][]int{{1, 3}, {2}, {4, 12, 31}, {8}, {16, 16}}},
		{[]int{1, 2, 1, 2, 1}, []int{1, 10, 100, 1000, 10000}, [][]int{{1}, {10, 110}, {100}, {1000, 11001}, {10000}}},
		{[]int{1, 2, 1}, []int{most, most, most}, [][]int{{most}, {most, 3 * most}, {most}}},
		{[]int{2, 1, 1}, []int{-most, -most, -most}, [][]int{{-most, -3 * most}, {-most}, {-most}}},
	} {
		if sums, e := Build(made(t, x.heights...), x.weights); e != api.OK || !equal(sums, x.sums) {
			t.Error(x, sums, e)
		}
	}
}

// P16.1: Build and Weights, of all small towers, held against sums that are added up step by step.
func TestBuildSmall(t *testing.T) {
	for _, x := range smallTowers(t) {
		n := len(x.Tokens)
		for _, weights := range [][]int{make([]int, n), slices.Repeat([]int{1}, n), {3, 20, 100, 7000, 50000}, {-most, most, 1, -3, most}, {0, 1, 0, -1, 0}} {
			weights = weights[:n]
			sums, e := Build(x, weights)
			if e != api.OK || !equal(sums, wanted(x, weights)) || !slices.Equal(Weights(x, sums), weights) {
				t.Error(x, weights, sums, e)
			}
		}
	}
}

// P16.1: Build, Weights and Total, of long towers, up to the greatest there is.
func TestBuildLong(t *testing.T) {
	high := slices.Repeat([]int{1, 4, 2, 8, 1}, 200)
	for _, x := range append(longTowers(t), made(t, high...)) {
		n := len(x.Tokens)
		for _, weights := range [][]int{unlike(n), slices.Repeat([]int{most}, n), slices.Repeat([]int{-most}, n)} {
			sums, e := Build(x, weights)
			if e != api.OK || !equal(sums, wanted(x, weights)) || !slices.Equal(Weights(x, sums), weights) {
				t.Error(n, e)
			}
			if total, e := Total(x, sums); total != added(weights, 0, 0) || e != api.OK {
				t.Error(n, total, e)
			}
		}
	}
}

// P16.1: Build takes as many weights as there are nodes, from -2^30 to 2^30, and no others.
func TestBuildWrong(t *testing.T) {
	x := made(t, 1, 3, 2)
	for n := range 6 {
		for _, weight := range []int{0, 1, most, -most} {
			if sums, e := Build(x, slices.Repeat([]int{weight}, n)); (e == api.OK) != (n == 3) || n != 3 && (e != api.ErrArg || len(sums) != 0) {
				t.Error(n, weight, sums, e)
			}
		}
	}
	for _, no := range noWeights {
		for place := range 3 {
			weights := []int{5, 1, 2}
			weights[place] = no
			if sums, e := Build(x, weights); e != api.ErrArg || len(sums) != 0 {
				t.Error(weights, sums, e)
			}
		}
	}
}

// P16.1: all answer ErrArg, or none, of a tower that isn't right, whatever else there is.
func TestWrongTowers(t *testing.T) {
	right := made(t, 1, 2, 1)
	weights := []int{5, 1, 2}
	good := built(t, right, weights)
	for _, x := range wrongTowers(t) {
		for _, l := range [][]int{weights, nil, {5}, {5, 1, 2, 0}} {
			if sums, e := Build(x, l); e != api.ErrArg || len(sums) != 0 {
				t.Error("Build", x, l, sums, e)
			}
		}
		for _, sums := range [][][]int{good, nil, {{5}}, append(copied(good), []int{0})} {
			refused(t, x, sums)
		}
	}
}

// refused: do all calls that take sums refuse these?
func refused(t *testing.T, x api.Tower, sums [][]int) {
	t.Helper()
	if total, e := Total(x, sums); total != 0 || e != api.ErrArg {
		t.Error("Total", x, sums, total, e)
	}
	if l := Weights(x, sums); len(l) != 0 {
		t.Error("Weights", x, sums, l)
	}
	for _, at := range [][2]int{{0, 0}, {0, 1}, {1, 0}, {-1, 0}, {0, 99}, {math.MaxInt, math.MinInt}} {
		if total, looked, e := Between(x, sums, at[0], at[1]); total != 0 || looked != 0 || e != api.ErrArg {
			t.Error("Between", x, sums, at, total, looked, e)
		}
	}
	for _, change := range [][2][]int{{nil, nil}, {{0}, {1}}, {{99}, {1}}, {{0}, nil}, {{-1}, {math.MaxInt}}} {
		if after, n, e := Change(x, sums, change[0], change[1]); len(after) != 0 || n != 0 || e != api.ErrArg {
			t.Error("Change", x, sums, change, after, n, e)
		}
	}
}

// P16.1: all that take sums answer ErrArg, or none, unless they are those that Build makes.
func TestWrongSums(t *testing.T) {
	for _, heights := range [][]int{{1}, {2}, {1, 1}, {1, 2}, {2, 2}, {1, 3, 2}, {2, 1, 3, 1, 2}, {8, 1, 1, 8}} {
		x := made(t, heights...)
		for _, weights := range [][]int{{5, 1, 2, 9, -3}, {0, 0, 0, 0, 0}, {most, -most, most, -most, 1}} {
			for _, sums := range wrongSums(t, x, weights[:len(heights)]) {
				refused(t, x, sums)
			}
		}
	}
}

// P16.1: sums of weights that may not be aren't those that Build makes, though they add up.
func TestSumsOfNoWeights(t *testing.T) {
	for _, no := range noWeights {
		for _, heights := range [][]int{{1}, {3}, {1, 2, 1}, {3, 2, 1, 2}} {
			x := made(t, heights...)
			for place := range heights {
				weights := make([]int, len(heights))
				weights[place] = no
				refused(t, x, wanted(x, weights))
			}
		}
	}
}

// P16.1: the sums of one tower aren't those of another one, unless all of them are the same.
func TestSumsOfOthers(t *testing.T) {
	towers := smallTowers(t)[:84]
	for _, x := range towers {
		for _, y := range towers {
			weights := []int{1, 2, 4}[:len(y.Tokens)]
			sums := built(t, y, weights)
			if len(x.Tokens) == len(y.Tokens) && equal(wanted(x, weights), sums) {
				if !slices.Equal(Weights(x, sums), weights) {
					t.Error(x, sums)
				}
			} else if l := Weights(x, sums); len(l) != 0 {
				t.Error(x, y, sums, l)
			}
		}
	}
}

// P16.1: Total, by hand.
func TestTotal(t *testing.T) {
	for _, x := range []struct {
		heights, weights []int
		total            int
	}{
		{[]int{1}, []int{0}, 0}, {[]int{1}, []int{-9}, -9}, {[]int{8}, []int{most}, most}, {[]int{1, 1}, []int{3, 4}, 7},
		{[]int{1, 3, 2}, []int{5, 1, 2}, 8}, {[]int{2, 2, 2}, []int{5, 1, -6}, 0}, {[]int{1, 2, 1, 2}, []int{most, most, most, most}, 4 * most},
		{[]int{1, 1, 1}, []int{-most, -most, -most}, -3 * most},
	} {
		y := made(t, x.heights...)
		if total, e := Total(y, built(t, y, x.weights)); total != x.total || e != api.OK {
			t.Error(x, total, e)
		}
	}
}

// P16.1: Between, on ways that one can go by hand.
func TestBetweenByHand(t *testing.T) {
	for _, x := range []struct {
		heights, weights       []int
		from, to, total, looks int
	}{
		{[]int{1, 1, 1}, []int{5, 1, 2}, 1, 0, 3, 2},
		{[]int{1, 3, 2}, []int{5, 1, 2}, 1, 0, 3, 2},
		{[]int{1, 3, 2}, []int{5, 1, 2}, 2, 1, 7, 1},
		{[]int{1, 3, 2}, []int{5, 1, 2}, 1, 1, 0, 0},
		{[]int{8}, []int{5}, 0, 0, 0, 0},
		{[]int{1, 8}, []int{5, 1}, 1, 0, 1, 1},
		{[]int{1, 8}, []int{5, 1}, 0, 1, 5, 1},
		{[]int{2, 1, 3, 1, 2}, []int{1, 2, 4, 8, 16}, 0, 4, 15, 2},
		{[]int{2, 1, 3, 1, 2}, []int{1, 2, 4, 8, 16}, 2, 1, 29, 3},
		{[]int{2, 1, 3, 1, 2}, []int{1, 2, 4, 8, 16}, 3, 2, 27, 3},
		{[]int{2, 1, 3, 1, 2}, []int{1, 2, 4, 8, 16}, 1, 0, 30, 3},
		{[]int{3, 1, 2, 1, 3, 1, 2, 1}, []int{1, 2, 4, 8, 16, 32, 64, 128}, 0, 7, 127, 3},
		{[]int{3, 1, 2, 1, 3, 1, 2, 1}, []int{1, 2, 4, 8, 16, 32, 64, 128}, 0, 4, 15, 1},
		{[]int{3, 1, 2, 1, 3, 1, 2, 1}, []int{1, 2, 4, 8, 16, 32, 64, 128}, 0, 3, 7, 2},
		{[]int{3, 1, 2, 1, 3, 1, 2, 1}, []int{1, 2, 4, 8, 16, 32, 64, 128}, 5, 3, 231, 4},
	} {
		y := made(t, x.heights...)
		if total, looked, e := Between(y, built(t, y, x.weights), x.from, x.to); total != x.total || looked != x.looks || e != api.OK {
			t.Error(x, total, looked, e)
		}
	}
}

// P16.1: Between, of each place and each other one, of all small towers and some long ones, held against what is added up step by step.
func TestBetween(t *testing.T) {
	for _, x := range append(smallTowers(t), longTowers(t)...) {
		n := len(x.Tokens)
		weights := unlike(n)
		sums := built(t, x, weights)
		for from := 0; from < n; from += 1 + n/30 {
			for to := 0; to < n; to += 1 + n/25 {
				want := 0
				if from != to {
					want = added(weights, from, to)
				}
				if total, looked, e := Between(x, sums, from, to); total != want || looked != looks(x, from, to) || e != api.OK {
					t.Error(x.Heights, from, to, total, looked, e)
				}
			}
		}
	}
}

// P16.1: Between has ErrNone, unless there are both places.
func TestBetweenNone(t *testing.T) {
	for _, heights := range [][]int{{1}, {8}, {1, 2}, {2, 1, 3, 1, 2}} {
		x := made(t, heights...)
		sums := built(t, x, unlike(len(heights)))
		for _, no := range noPlaces(len(heights)) {
			for _, at := range [][2]int{{no, 0}, {0, no}, {no, no}, {no, len(heights) - 1}, {len(heights) - 1, no}} {
				if total, looked, e := Between(x, sums, at[0], at[1]); total != 0 || looked != 0 || e != api.ErrNone {
					t.Error(heights, at, total, looked, e)
				}
			}
		}
	}
}

// P16.1: Change, by hand.
func TestChangeByHand(t *testing.T) {
	x := made(t, 2, 1, 3, 1, 2)
	before := built(t, x, []int{1, 2, 4, 8, 16})
	for _, y := range []struct {
		places, weights []int
		sums            [][]int
		n               int
	}{
		{nil, nil, [][]int{{1, 3}, {2}, {4, 12, 31}, {8}, {16, 16}}, 0},
		{[]int{}, []int{}, [][]int{{1, 3}, {2}, {4, 12, 31}, {8}, {16, 16}}, 0},
		{[]int{1}, []int{2}, [][]int{{1, 3}, {2}, {4, 12, 31}, {8}, {16, 16}}, 0},
		{[]int{1}, []int{5}, [][]int{{1, 6}, {5}, {4, 12, 34}, {8}, {16, 16}}, 3},
		{[]int{0}, []int{0}, [][]int{{0, 2}, {2}, {4, 12, 30}, {8}, {16, 16}}, 3},
		{[]int{2}, []int{-4}, [][]int{{1, 3}, {2}, {-4, 4, 23}, {8}, {16, 16}}, 3},
		{[]int{0, 1}, []int{2, 1}, [][]int{{2, 3}, {1}, {4, 12, 31}, {8}, {16, 16}}, 2},
		{[]int{3, 0, 3}, []int{100, 1, 7}, [][]int{{1, 3}, {2}, {4, 11, 30}, {7}, {16, 16}}, 3},
		{[]int{3, 3, 3}, []int{100, most, 8}, [][]int{{1, 3}, {2}, {4, 12, 31}, {8}, {16, 16}}, 0},
		{[]int{4, 3, 2, 1, 0}, []int{1, 2, 3, 4, 5}, [][]int{{5, 9}, {4}, {3, 5, 15}, {2}, {1, 1}}, 9},
		{[]int{4, 3}, []int{most, -most}, [][]int{{1, 3}, {2}, {4, 4 - most, 7}, {-most}, {most, most}}, 5},
	} {
		if sums, n, e := Change(x, before, y.places, y.weights); e != api.OK || n != y.n || !equal(sums, y.sums) {
			t.Error(y, sums, n, e)
		}
	}
}

// P16.1: Change, of small towers and long ones, held against sums that are built anew; what is another one is counted one by one.
func TestChange(t *testing.T) {
	for i, x := range append(smallTowers(t), longTowers(t)...) {
		n := len(x.Tokens)
		weights := unlike(n)
		before := built(t, x, weights)
		for k := range 6 {
			var places, changes []int
			after := slices.Clone(weights)
			for j := range k * (1 + n/20) {
				place, weight := (i*13+j*j*7+j)%n, (i+j*5)%9-4
				if j%4 == 3 {
					weight = weights[place]
				}
				places, changes = append(places, place), append(changes, weight)
				after[place] = weight
			}
			want, count := wanted(x, after), 0
			for place, row := range want {
				for level := range row {
					if row[level] != before[place][level] {
						count++
					}
				}
			}
			if sums, others, e := Change(x, before, places, changes); e != api.OK || others != count || !equal(sums, want) {
				t.Error(x.Heights, places, changes, others, count, e)
			}
		}
	}
}

// P16.1: Change has ErrArg, unless there are as many weights as places, each that may be; then ErrNone, unless there is each place.
func TestChangeWrong(t *testing.T) {
	x := made(t, 1, 3, 2)
	before := built(t, x, []int{5, 1, 2})
	wrong := func(places, weights []int, want api.Errno) {
		if sums, n, e := Change(x, before, places, weights); len(sums) != 0 || n != 0 || e != want {
			t.Error(places, weights, sums, n, e)
		}
	}
	for _, l := range [][2][]int{{{0}, nil}, {nil, {1}}, {{0, 1}, {1}}, {{1}, {1, 2}}, {{0, 1, 2}, {5, 1}}, {{9}, nil}, {{-1, 0}, {1}}} {
		wrong(l[0], l[1], api.ErrArg)
	}
	for _, no := range noWeights {
		wrong([]int{0}, []int{no}, api.ErrArg)
		wrong([]int{0, 1, 2}, []int{1, no, 2}, api.ErrArg)
		wrong([]int{1, 1}, []int{no, 1}, api.ErrArg)
		for _, place := range noPlaces(3) {
			wrong([]int{place}, []int{no}, api.ErrArg)
			wrong([]int{place, 0}, []int{1, no}, api.ErrArg)
		}
	}
	for _, place := range noPlaces(3) {
		wrong([]int{place}, []int{1}, api.ErrNone)
		wrong([]int{0, place}, []int{most, -most}, api.ErrNone)
		wrong([]int{place, 0}, []int{0, 0}, api.ErrNone)
		wrong([]int{0, place, 1}, []int{5, 1, 1}, api.ErrNone)
	}
}

// P16.2: from a node to another one, and from there on to the first one, is all; by way of a third one, too.
func TestPartsMakeTheWhole(t *testing.T) {
	for _, x := range append(smallTowers(t), longTowers(t)...) {
		n := len(x.Tokens)
		sums := built(t, x, unlike(n))
		total, _ := Total(x, sums)
		for from := 0; from < n; from += 1 + n/50 {
			for to := 0; to < n; to += 1 + n/20 {
				there, _, _ := Between(x, sums, from, to)
				back, _, _ := Between(x, sums, to, from)
				if from != to && there+back != total || from == to && (there != 0 || back != 0) {
					t.Fatal(x.Heights, from, to, there, back, total)
				}
				midst := nodes(n, from, to)[len(nodes(n, from, to))/2]
				first, _, _ := Between(x, sums, from, midst)
				rest, _, _ := Between(x, sums, midst, to)
				if from != to && first+rest != there {
					t.Fatal(x.Heights, from, midst, to, first, rest, there)
				}
			}
		}
	}
}

// P16.2: changes hang on the last weight of a place alone: neither on those ahead of it, nor on the order of places, nor on how many are changed at once.
func TestLastWeightAlone(t *testing.T) {
	x := made(t, 2, 1, 3, 1, 2)
	before := built(t, x, []int{1, 2, 4, 8, 16})
	want, count, _ := Change(x, before, []int{0, 3, 4}, []int{-5, 70, 9})
	for _, y := range [][2][]int{
		{{4, 3, 0}, {9, 70, -5}}, {{0, 0, 3, 3, 4, 4}, {most, -5, 0, 70, 16, 9}}, {{4, 3, 0, 0, 3, 4}, {1, 2, 3, -5, 70, 9}},
		{{0, 1, 3, 2, 4, 1, 2}, {-5, 7, 70, 7, 9, 2, 4}}, {{0, 3, 4, 0, 3, 4}, {-5, 70, 9, -5, 70, 9}},
	} {
		if sums, n, e := Change(x, before, y[0], y[1]); e != api.OK || n != count || !equal(sums, want) {
			t.Error(y, sums, n, e)
		}
	}
	sums := before
	for i, place := range []int{0, 3, 4} {
		sums, _, _ = Change(x, sums, []int{place}, []int{[]int{-5, 70, 9}[i]})
	}
	if !equal(sums, want) {
		t.Error(sums)
	}
	if back, n, e := Change(x, sums, []int{0, 3, 4}, []int{1, 8, 16}); e != api.OK || n != count || !equal(back, before) {
		t.Error(back, n, e)
	}
}

// roomy: lists with room to spare, filled with numbers of which none may be lost.
func roomy(l [][]int) [][]int {
	var all [][]int
	for _, row := range l {
		all = append(all, append(slices.Clone(row), 71, 72, 73)[:len(row)])
	}
	return append(all, []int{74})[:len(all)]
}

// whole: lists with what is in their spare room.
func whole(l [][]int) [][]int {
	var all [][]int
	for _, row := range l[:cap(l)] {
		all = append(all, row[:cap(row)])
	}
	return all
}

// spoil writes over all that lists have, and over the room behind them.
func spoil(l ...[]int) {
	for _, row := range l {
		row = row[:cap(row)]
		for i := range row {
			row[i] = -77
		}
	}
}

// P16.1: what is handed in is not changed, its spare room neither; what is answered shares nothing with it, and no two lists of an answer share anything.
func TestShares(t *testing.T) {
	y := made(t, 2, 1, 3, 1, 2)
	lists := roomy([][]int{y.Tokens, y.Heights, {1, 2, 4, 8, 16}, {3, 0, 3}, {100, 1, 7}})
	x := api.Tower{Tokens: lists[0], Heights: lists[1], Next: roomy(y.Next)}
	sums := roomy(built(t, x, lists[2]))
	wasLists, wasNext, wasSums := copied(whole(lists)), copied(whole(x.Next)), copied(whole(sums))
	check := func(name string) {
		t.Helper()
		if !equal(whole(lists), wasLists) || !equal(whole(x.Next), wasNext) || !equal(whole(sums), wasSums) {
			t.Fatal(name, lists, x.Next, sums)
		}
	}
	mine, _ := Build(x, lists[2])
	check("Build")
	spoil(mine...)
	check("Build's")
	Total(x, sums)
	Between(x, sums, 2, 1)
	check("asked")
	spoil(Weights(x, sums))
	check("Weights")
	for _, places := range [][]int{lists[3], nil} {
		changed, _, e := Change(x, sums, places, lists[4][:len(places)])
		check("Change")
		if e != api.OK {
			t.Fatal(e)
		}
		spoil(changed...)
		check("Change's")
	}
}

// P16.1: what is written over one list of sums, or over the room behind it, leaves the others as they are.
func TestListsShareNothing(t *testing.T) {
	x := made(t, 2, 1, 3, 1, 2)
	want := wanted(x, []int{1, 2, 4, 8, 16})
	for place := range want {
		sums := built(t, x, []int{1, 2, 4, 8, 16})
		changed, _, _ := Change(x, sums, nil, nil)
		spoil(sums[place], changed[place])
		for k := range want {
			if k != place && (!slices.Equal(sums[k], want[k]) || !slices.Equal(changed[k], want[k])) {
				t.Error(place, k, sums, changed)
			}
		}
	}
}

// P16.1: a call hangs on its arguments alone: asked again, behind others, it answers the same.
func TestAskedAgain(t *testing.T) {
	x := made(t, 1, 3, 2)
	for range 3 {
		sums := built(t, x, []int{5, 1, 2})
		total, looked, e := Between(x, sums, 1, 0)
		if !equal(sums, [][]int{{5}, {1, 1, 8}, {2, 7}}) || total != 3 || looked != 2 || e != api.OK {
			t.Error(sums, total, looked, e)
		}
		other := made(t, 8, 8)
		Change(other, built(t, other, []int{9, 9}), []int{0}, []int{-9})
		spoil(sums...)
	}
}
