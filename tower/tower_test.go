package tower

import (
	"archipelago/api"
	"math"
	"slices"
	"testing"
)

// noTokens are some numbers that no token is.
var noTokens = []int{-1, 10001, -2, 1 << 31, 1<<32 + 5, -1<<32 + 5, math.MinInt, math.MaxInt}

// noHeights are some numbers that no height is.
var noHeights = []int{0, 9, -1, 10, -8, 256 + 1, 1 << 31, 1<<32 + 1, math.MinInt, math.MaxInt}

// noPlaces are some numbers that no place is, of n.
func noPlaces(n int) []int {
	return []int{-1, n, -n, n + 1, 1 << 31, 1 << 32, -1 << 32, math.MinInt, math.MaxInt}
}

// allLists are all lists of one up to n numbers, each one of those.
func allLists(n int, kinds []int) [][]int {
	var l [][]int
	last := [][]int{nil}
	for range n {
		var longer [][]int
		for _, ahead := range last {
			for _, kind := range kinds {
				longer = append(longer, append(slices.Clone(ahead), kind))
			}
		}
		l, last = append(l, longer...), longer
	}
	return l
}

// tokensOf is a ring of n tokens, from the greatest there may be to 0.
func tokensOf(n int) []int {
	var l []int
	for i := range n {
		l = append(l, 10000-i*10000/max(n-1, 1))
	}
	return l
}

// longHeights are heights of many nodes: low ones and high ones mixed, few high ones at the edges or in the midst, and all of one height.
func longHeights() [][]int {
	var l [][]int
	for _, n := range []int{60, 257, 1000} {
		mixed, rare, midst := make([]int, n), make([]int, n), make([]int, n)
		for i := range n {
			mixed[i] = 1 + i*i*7%11%8
			rare[i] = 1 + i%2
			midst[i] = 1 + min(i, n-1-i)%8
		}
		rare[0], rare[n-1] = 7, 8
		l = append(l, mixed, rare, midst, slices.Repeat([]int{1}, n), slices.Repeat([]int{8}, n))
	}
	return l
}

// someHeights are the heights of all small towers, and of some long ones.
func someHeights() [][]int {
	return slices.Concat(allLists(5, []int{1, 2, 3, 8}), allLists(2, []int{1, 2, 3, 4, 5, 6, 7, 8}), longHeights())
}

// next is the place one comes to, step by step, where a height is above a level.
func next(heights []int, place, level int) int {
	for {
		place++
		if place == len(heights) {
			place = 0
		}
		if heights[place] > level {
			return place
		}
	}
}

// allNext are where all nodes of some heights lead to.
func allNext(heights []int) [][]int {
	var l [][]int
	for place, height := range heights {
		var row []int
		for level := 0; level < height; level++ {
			row = append(row, next(heights, place, level))
		}
		l = append(l, row)
	}
	return l
}

// greatest is the greatest height.
func greatest(heights []int) int {
	most := 0
	for _, height := range heights {
		if height > most {
			most = height
		}
	}
	return most
}

// made is a tower of those heights, that must be.
func made(t *testing.T, heights []int) api.Tower {
	t.Helper()
	x, e := Build(tokensOf(len(heights)), heights)
	if e != api.OK {
		t.Fatal(heights, e)
	}
	return x
}

// is: has a tower just these tokens, these heights, and leads so?
func is(x api.Tower, tokens, heights []int, next [][]int) bool {
	return slices.Equal(x.Tokens, tokens) && slices.Equal(x.Heights, heights) && slices.EqualFunc(x.Next, next, slices.Equal[[]int])
}

// none: has a tower nothing?
func none(x api.Tower) bool {
	return len(x.Tokens) == 0 && len(x.Heights) == 0 && len(x.Next) == 0
}

// copied: a tower of memory of its own.
func copied(x api.Tower) api.Tower {
	y := api.Tower{Tokens: slices.Clone(x.Tokens), Heights: slices.Clone(x.Heights)}
	for _, row := range x.Next {
		y.Next = append(y.Next, slices.Clone(row))
	}
	return y
}

// P14.1: Build, of towers that one can go round by hand.
func TestBuildByHand(t *testing.T) {
	for _, x := range []struct {
		tokens, heights []int
		next            [][]int
	}{
		{[]int{0}, []int{1}, [][]int{{0}}},
		{[]int{10000}, []int{8}, [][]int{{0, 0, 0, 0, 0, 0, 0, 0}}},
		{[]int{7, 3}, []int{1, 1}, [][]int{{1}, {0}}},
		{[]int{7, 3}, []int{2, 1}, [][]int{{1, 0}, {0}}},
		{[]int{7, 3}, []int{1, 2}, [][]int{{1}, {0, 1}}},
		{[]int{7, 3}, []int{2, 3}, [][]int{{1, 1}, {0, 0, 1}}},
		{[]int{4, 5, 6}, []int{1, 3, 2}, [][]int{{1}, {2, 2, 1}, {0, 1}}},
		{[]int{0, 9, 10000}, []int{2, 1, 2}, [][]int{{1, 2}, {2}, {0, 0}}},
		{[]int{9, 8, 7, 6}, []int{8, 1, 1, 8}, [][]int{{1, 3, 3, 3, 3, 3, 3, 3}, {2}, {3}, {0, 0, 0, 0, 0, 0, 0, 0}}},
		{[]int{10, 20, 30, 40, 50}, []int{1, 2, 3, 2, 1}, [][]int{{1}, {2, 2}, {3, 3, 2}, {4, 1}, {0}}},
	} {
		if y, e := Build(x.tokens, x.heights); e != api.OK || !is(y, x.tokens, x.heights, x.next) {
			t.Error(x, y, e)
		}
	}
}

// P14.1: Build, of all small towers, and of long ones: each node leads to the one that one comes to step by step.
func TestBuild(t *testing.T) {
	for _, heights := range someHeights() {
		tokens := tokensOf(len(heights))
		x, e := Build(tokens, heights)
		if e != api.OK || !is(x, tokens, heights, allNext(heights)) || !Right(x) {
			t.Error(heights, x.Next, e)
		}
	}
}

// P14.1: which tokens there are, and in which order, says nothing of where nodes lead.
func TestBuildOtherTokens(t *testing.T) {
	heights := []int{2, 1, 3, 1, 2}
	for _, tokens := range [][]int{{0, 1, 2, 3, 4}, {4, 3, 2, 1, 0}, {10000, 0, 9999, 1, 5000}, {64, 1, 4159, 0, 77}} {
		if x, e := Build(tokens, heights); e != api.OK || !is(x, tokens, heights, allNext(heights)) {
			t.Error(tokens, x, e)
		}
	}
}

// P14.1: Build takes a ring that may be, of at least one token, and no other list.
func TestBuildWrongTokens(t *testing.T) {
	lists := [][]int{nil, {}, {3, 3}, {0, 1, 0}, {1, 2, 2}, {10000, 5, 10000}, make([]int, 1000), make([]int, 1001), tokensOf(1001), tokensOf(2000)}
	for _, no := range noTokens {
		lists = append(lists, []int{no}, []int{no, 1, 2}, []int{1, no, 2}, []int{1, 2, no})
	}
	for _, tokens := range lists {
		for _, height := range []int{1, 8} {
			if x, e := Build(tokens, slices.Repeat([]int{height}, len(tokens))); e != api.ErrArg || !none(x) {
				t.Error(tokens, height, x, e)
			}
		}
	}
	for _, n := range []int{1, 999, 1000} {
		if x, e := Build(tokensOf(n), slices.Repeat([]int{1}, n)); e != api.OK || len(x.Next) != n {
			t.Error(n, e)
		}
	}
}

// P14.1: Build takes as many heights as tokens, each from 1 to 8, and no others.
func TestBuildWrongHeights(t *testing.T) {
	for _, heights := range allLists(3, []int{-1, 0, 1, 8, 9}) {
		wrong := slices.ContainsFunc(heights, func(height int) bool { return height < 1 || height > 8 })
		for n := range 5 {
			x, e := Build(tokensOf(n), heights)
			if wrong || n != len(heights) {
				if e != api.ErrArg || !none(x) {
					t.Error(n, heights, x, e)
				}
			} else if e != api.OK || len(x.Next) != n {
				t.Error(n, heights, x, e)
			}
		}
	}
	for _, no := range noHeights {
		for place := range 4 {
			heights := []int{1, 8, 2, 1}
			heights[place] = no
			if x, e := Build(tokensOf(4), heights); e != api.ErrArg || !none(x) {
				t.Error(heights, x, e)
			}
		}
	}
	for n := range 3 {
		if x, e := Build(tokensOf(n), nil); e != api.ErrArg || !none(x) {
			t.Error(n, x, e)
		}
	}
}

// spoilt are towers that aren't right, each a tower that is but for one thing.
func spoilt(x api.Tower) []api.Tower {
	var l []api.Tower
	change := func(f func(y *api.Tower)) {
		y := copied(x)
		f(&y)
		l = append(l, y)
	}
	last := len(x.Tokens) - 1
	for place := range x.Tokens {
		for _, no := range noTokens {
			change(func(y *api.Tower) { y.Tokens[place] = no })
		}
		for _, no := range noHeights {
			change(func(y *api.Tower) { y.Heights[place] = no })
		}
		for height := 1; height <= 8; height++ {
			if height != x.Heights[place] {
				change(func(y *api.Tower) { y.Heights[place] = height })
			}
		}
		if place > 0 {
			change(func(y *api.Tower) { y.Tokens[place] = y.Tokens[place-1] })
		}
		change(func(y *api.Tower) { y.Next[place] = nil })
		change(func(y *api.Tower) { y.Next[place] = append(y.Next[place], 0) })
		change(func(y *api.Tower) { y.Next[place] = append(y.Next[place], place) })
		change(func(y *api.Tower) { y.Next[place] = y.Next[place][:len(y.Next[place])-1] })
		for level, to := range x.Next[place] {
			for _, other := range append(noPlaces(last+1), to+1, to-1, to+2, place, last, 0) {
				if other != to {
					change(func(y *api.Tower) { y.Next[place][level] = other })
				}
			}
		}
	}
	change(func(y *api.Tower) { y.Tokens = nil })
	change(func(y *api.Tower) { y.Heights = nil })
	change(func(y *api.Tower) { y.Next = nil })
	change(func(y *api.Tower) { y.Tokens = append(y.Tokens, 4321) })
	change(func(y *api.Tower) { y.Heights = append(y.Heights, 1) })
	change(func(y *api.Tower) { y.Next = append(y.Next, []int{0}) })
	change(func(y *api.Tower) { y.Next = append(y.Next, nil) })
	change(func(y *api.Tower) { y.Tokens = y.Tokens[:last] })
	change(func(y *api.Tower) { y.Heights = y.Heights[:last] })
	change(func(y *api.Tower) { y.Next = y.Next[:last] })
	change(func(y *api.Tower) { y.Next = append([][]int{{0}}, y.Next...) })
	return l
}

// wrong are towers that aren't right.
func wrong(t *testing.T) []api.Tower {
	l := []api.Tower{{}, {Tokens: []int{1}}, {Heights: []int{1}}, {Next: [][]int{{0}}}, {Tokens: []int{}, Heights: []int{}, Next: [][]int{}}}
	for _, heights := range [][]int{{1}, {8}, {1, 1}, {2, 1}, {1, 3, 2}, {2, 1, 3, 1, 2}, {3, 3, 1, 3}} {
		l = append(l, spoilt(made(t, heights))...)
	}
	long := api.Tower{Tokens: tokensOf(1001), Heights: slices.Repeat([]int{1}, 1001), Next: allNext(slices.Repeat([]int{1}, 1001))}
	other := made(t, longHeights()[10])
	other.Next[500][0] = 502
	return append(l, long, other)
}

// P14.1: Right, of towers that one changes at one place, and of none.
func TestRightWrong(t *testing.T) {
	for _, x := range wrong(t) {
		if Right(x) {
			t.Error(x)
		}
	}
}

// P14.1: Right, of a tower whose tokens are others, and of one that was turned, with where its nodes lead turned, too.
func TestRightOthers(t *testing.T) {
	for _, heights := range [][]int{{1}, {2, 1}, {1, 3, 2}, {2, 1, 3, 1, 2}} {
		x := made(t, heights)
		for place := range heights {
			y := copied(x)
			y.Tokens[place] = 4321
			if !Right(y) {
				t.Error("token", y)
			}
			turned := slices.Concat(heights[place:], heights[:place])
			y = api.Tower{Tokens: x.Tokens, Heights: turned, Next: allNext(turned)}
			if !Right(y) {
				t.Error("turned", y)
			}
			y.Next = x.Next
			if Right(y) != slices.Equal(turned, heights) {
				t.Error("half turned", y)
			}
		}
	}
}

// P14.1: Right, of all lists of a small tower's Next: just the one is right.
func TestRightAllNext(t *testing.T) {
	heights := []int{2, 1, 2}
	wanted := [][]int{{1, 2}, {2}, {0, 0}}
	count := 0
	for _, l := range allLists(5, []int{-1, 0, 1, 2, 3}) {
		if len(l) != 5 {
			continue
		}
		x := api.Tower{Tokens: []int{5, 6, 7}, Heights: heights, Next: [][]int{l[:2], l[2:3], l[3:]}}
		if Right(x) != is(x, x.Tokens, heights, wanted) {
			t.Error(x)
		}
		if Right(x) {
			count++
		}
	}
	if count != 1 {
		t.Error(count)
	}
}

// P14.1: Heights, by words that one can look through by hand.
func TestHeightsByHand(t *testing.T) {
	script := []uint32{1, 2, 12, 8, 0, 1 << 6, 1 << 7, 1 << 31, 0xFFFFFFFF}
	for _, x := range []struct {
		tokens []int
		script []uint32
		wanted []int
	}{
		{[]int{0, 1, 2, 3, 4, 5, 6, 7, 8}, script, []int{1, 2, 3, 4, 8, 7, 8, 8, 1}},
		{[]int{9, 18, 10, 13, 9009}, script, []int{1, 1, 2, 8, 1}},
		{[]int{4, 4, 4}, script, []int{8, 8, 8}},
		{[]int{-1, 2, -9, -8, math.MinInt}, script, []int{1, 3, 1, 1, 1}},
		{[]int{10000, 10001, 1 << 31, math.MaxInt}, []uint32{4}, []int{3, 3, 3, 3}},
		{[]int{10001, 10002, math.MaxInt, math.MaxInt - 1}, []uint32{2, 4}, []int{3, 2, 3, 2}},
		{[]int{0, 5, -1, 10000}, nil, []int{8, 8, 1, 8}},
		{[]int{0, 5, -1, 10000}, []uint32{}, []int{8, 8, 1, 8}},
		{nil, script, nil}, {[]int{}, script, nil}, {nil, nil, nil},
	} {
		if heights := Heights(x.tokens, x.script); !slices.Equal(heights, x.wanted) {
			t.Error(x, heights)
		}
	}
}

// P14.1: Heights, by each word's lowest bit, whatever its other bits, and of more tokens than a ring may have.
func TestHeights(t *testing.T) {
	for bit := range 32 {
		for _, above := range []uint32{0, 0xFFFFFFFF, 0xA5A5A5A5} {
			word := above<<bit<<1 | 1<<bit
			for _, token := range []int{0, 1, 2, 300} {
				wanted := []int{min(bit+1, 8)}
				if heights := Heights([]int{token}, []uint32{word, word}); !slices.Equal(heights, wanted) {
					t.Error(bit, above, heights)
				}
			}
		}
	}
	script := []uint32{1, 2, 4, 8, 16, 32, 64}
	tokens := tokensOf(2000)
	for place, height := range Heights(tokens, script) {
		if height != 1+tokens[place]%7 {
			t.Fatal(place, height)
		}
	}
	if _, e := Build(tokensOf(1000), Heights(tokensOf(1000), script)); e != api.OK {
		t.Error(e)
	}
}

// P14.1: Head, Walk and Level, of towers that one can go round by hand.
func TestByHand(t *testing.T) {
	for _, x := range []struct {
		heights []int
		head    int
		walks   [][]int
		levels  [][]int
	}{
		{[]int{1}, 0, [][]int{{0}}, [][]int{{0}, nil}},
		{[]int{8}, 0, [][]int{{0}}, [][]int{{0}, {0}, {0}, {0}, {0}, {0}, {0}, {0}, nil}},
		{[]int{1, 1, 1}, 0, [][]int{{0}, {1}, {2}}, [][]int{{0, 1, 2}, nil}},
		{[]int{1, 3, 2}, 1, [][]int{{0, 1}, {1}, {2, 1}}, [][]int{{0, 1, 2}, {1, 2}, {1}, nil}},
		{[]int{1, 2, 2, 1}, 1, [][]int{{0, 1}, {1}, {2}, {3, 0, 1}}, [][]int{{0, 1, 2, 3}, {1, 2}, nil}},
		{[]int{1, 1, 2, 1, 5, 2, 2}, 4, [][]int{{0, 1, 2, 4}, {1, 2, 4}, {2, 4}, {3, 4}, {4}, {5, 6, 2, 4}, {6, 2, 4}}, [][]int{{0, 1, 2, 3, 4, 5, 6}, {2, 4, 5, 6}, {4}, {4}, {4}, nil}},
		{[]int{4, 3, 2, 1}, 0, [][]int{{0}, {1, 0}, {2, 0}, {3, 0}}, [][]int{{0, 1, 2, 3}, {0, 1, 2}, {0, 1}, {0}, nil}},
		{[]int{1, 2, 3, 4}, 3, [][]int{{0, 1, 2, 3}, {1, 2, 3}, {2, 3}, {3}}, [][]int{{0, 1, 2, 3}, {1, 2, 3}, {2, 3}, {3}, nil}},
	} {
		y := made(t, x.heights)
		if head := Head(y); head != x.head {
			t.Error("Head", x, head)
		}
		for place, wanted := range x.walks {
			if walk := Walk(y, place); !slices.Equal(walk, wanted) {
				t.Error("Walk", x, place, walk)
			}
		}
		for level, wanted := range x.levels {
			if l := Level(y, level); !slices.Equal(l, wanted) {
				t.Error("Level", x, level, l)
			}
		}
	}
}

// P14.1: Head and Level, of all small towers, and of long ones, at all levels, and at numbers that no level is.
func TestHeadAndLevel(t *testing.T) {
	for _, heights := range someHeights() {
		x := made(t, heights)
		head := Head(x)
		for place, height := range heights {
			if height > heights[head] || height == heights[head] && place < head {
				t.Error("Head", heights, head)
			}
		}
		for _, level := range []int{math.MinInt, -1 << 32, -2, -1, 0, 1, 2, 3, 4, 5, 6, 7, 8, 9, 256, 1 << 32, math.MaxInt} {
			var wanted []int
			for place := range heights {
				if heights[place] > level {
					wanted = append(wanted, place)
				}
			}
			if l := Level(x, level); !slices.Equal(l, wanted) {
				t.Error("Level", heights, level, l)
			}
		}
	}
}

// P14.1: Walk, of all small towers, and of long ones, from each place; none, where there is no such place.
func TestWalk(t *testing.T) {
	for _, heights := range someHeights() {
		x := made(t, heights)
		for place := range heights {
			if place%37 != 0 && place != len(heights)-1 && len(heights) > 100 {
				continue
			}
			wanted := []int{place}
			for at := place; heights[at] != greatest(heights); {
				at = next(heights, at, heights[at]-1)
				wanted = append(wanted, at)
			}
			if walk := Walk(x, place); !slices.Equal(walk, wanted) {
				t.Fatal(heights, place, walk)
			}
		}
		for _, no := range noPlaces(len(heights)) {
			if walk := Walk(x, no); len(walk) != 0 {
				t.Fatal(heights, no, walk)
			}
		}
	}
}

// P14.1: of a tower that isn't right there is no head, no walk, no level, and none that is the same.
func TestWrong(t *testing.T) {
	good := made(t, []int{2, 1, 3, 1, 2})
	for _, x := range wrong(t) {
		if head := Head(x); head != -1 {
			t.Error("Head", x, head)
		}
		for _, i := range []int{-1, 0, 1, 7, math.MinInt, math.MaxInt} {
			if walk := Walk(x, i); len(walk) != 0 {
				t.Error("Walk", x, i, walk)
			}
			if l := Level(x, i); len(l) != 0 {
				t.Error("Level", x, i, l)
			}
		}
		if Same(x, x) || Same(x, good) || Same(good, x) || Same(x, copied(x)) {
			t.Error("Same", x)
		}
	}
}

// P14.1: Same, of all small towers with all others: the same, just if their tokens and heights are, place by place.
func TestSame(t *testing.T) {
	var towers []api.Tower
	for _, tokens := range [][]int{{0}, {1}, {0, 1}, {1, 0}, {0, 2}, {0, 1, 2}, {1, 2, 0}, {2, 0, 1}, {0, 1, 3}} {
		for _, heights := range allLists(len(tokens), []int{1, 2, 8}) {
			if x, e := Build(tokens, heights); e == api.OK {
				towers = append(towers, x)
			}
		}
	}
	for i, a := range towers {
		for k, b := range towers {
			if Same(a, b) != (i == k) {
				t.Error(a, b)
			}
			if i == k && !Same(a, copied(b)) {
				t.Error(a)
			}
		}
	}
	for _, heights := range longHeights() {
		a, b := made(t, heights), made(t, heights)
		if !Same(a, b) {
			t.Error(len(heights))
		}
		b.Tokens[len(heights)/2] = 9876
		if Right(b) && Same(a, b) {
			t.Error(len(heights))
		}
	}
}

// P14.1: a tower that is turned is another one: its places are others, and so may its head's token be.
func TestSameTurned(t *testing.T) {
	a, _ := Build([]int{3, 4, 5}, []int{2, 1, 2})
	b, _ := Build([]int{5, 3, 4}, []int{2, 2, 1})
	if Same(a, b) || a.Tokens[Head(a)] != 3 || b.Tokens[Head(b)] != 5 {
		t.Error(a, b)
	}
}

// P14.2: along Next of a level one comes by just the nodes that are above it, each once, and back to where one began.
func TestEachLevelGoesRound(t *testing.T) {
	for _, heights := range someHeights() {
		x := made(t, heights)
		for level := range 8 {
			above := Level(x, level)
			for i, first := range above {
				if i%151 != 0 && len(heights) > 100 {
					continue
				}
				round := []int{first}
				for at := x.Next[first][level]; at != first && len(round) <= len(heights); at = x.Next[at][level] {
					round = append(round, at)
				}
				slices.Sort(round)
				if !slices.Equal(round, above) {
					t.Fatal(heights, level, first, round)
				}
			}
		}
	}
}

// P14.2: a walk ends at the greatest height; on the way no height is less than the one ahead, and no node comes twice.
func TestWalkEndsAtTheGreatest(t *testing.T) {
	for _, heights := range someHeights() {
		x := made(t, heights)
		most := heights[Head(x)]
		for place := range heights {
			if place%37 != 0 && place != len(heights)-1 && len(heights) > 100 {
				continue
			}
			walk := Walk(x, place)
			if walk[0] != place || heights[walk[len(walk)-1]] != most || most != greatest(heights) {
				t.Fatal(heights, place, walk)
			}
			met := map[int]bool{}
			for i, at := range walk {
				if met[at] || heights[at] == most && i != len(walk)-1 || i > 0 && heights[at] < heights[walk[i-1]] {
					t.Fatal(heights, place, walk)
				}
				met[at] = true
			}
		}
	}
}

// spoil writes over all that a list has, and over the room behind it.
func spoil(l []int) {
	l = l[:cap(l)]
	for i := range l {
		l[i] = 7777
	}
}

// P14.1: what is handed in is not changed, nor its spare room, and what is answered shares nothing with it.
func TestLeavesArguments(t *testing.T) {
	for _, heights := range slices.Concat(allLists(3, []int{1, 3, 8}), [][]int{{0, 9, 1}, {5, 5, 2, 1}}) {
		n := len(heights)
		allTokens, allHeights := append(tokensOf(n), 21, 22), append(slices.Clone(heights), 23, 24)
		wasTokens, wasHeights := slices.Clone(allTokens), slices.Clone(allHeights)
		x, _ := Build(allTokens[:n], allHeights[:n])
		wanted := copied(x)
		spoil(Heights(allTokens[:n], []uint32{1, 2}))
		spoil(Heights(allTokens[:n], nil))
		for i := range 3 {
			spoil(Walk(x, i))
			spoil(Level(x, i))
		}
		Head(x)
		Same(x, x)
		if !is(x, wanted.Tokens, wanted.Heights, wanted.Next) {
			t.Fatal("asked", heights, x)
		}
		spoil(x.Tokens)
		spoil(x.Heights)
		for _, row := range x.Next {
			spoil(row)
		}
		if !slices.Equal(allTokens, wasTokens) || !slices.Equal(allHeights, wasHeights) {
			t.Fatal(heights, allTokens, allHeights)
		}
	}
}

// P14.1: a script that is handed in is not changed.
func TestLeavesScript(t *testing.T) {
	script := []uint32{1, 2, 3, 4}
	Heights([]int{0, 1, 2, 3, 77, -1}, script[:2])
	if !slices.Equal(script, []uint32{1, 2, 3, 4}) {
		t.Error(script)
	}
}

// P14.1: what is written over one list of a tower, or over the room behind it, leaves its others as they are.
func TestListsShareNothing(t *testing.T) {
	for _, heights := range allLists(3, []int{1, 3, 8}) {
		for i := range len(heights) + 2 {
			x := made(t, heights)
			wanted := copied(x)
			lists, kept := append(x.Next, x.Tokens, x.Heights), append(wanted.Next, wanted.Tokens, wanted.Heights)
			spoil(lists[i])
			for k, l := range lists {
				if k != i && !slices.Equal(l, kept[k]) {
					t.Fatal(heights, i, k, l)
				}
			}
		}
	}
}

// P14.1: a call hangs on its arguments alone: asked again, behind others, it answers the same.
func TestAskedAgain(t *testing.T) {
	heights := []int{2, 1, 3, 1, 2}
	for range 3 {
		x := made(t, heights)
		if !is(x, tokensOf(5), heights, [][]int{{1, 2}, {2}, {3, 4, 2}, {4}, {0, 0}}) || Head(x) != 2 || !slices.Equal(Walk(x, 3), []int{3, 4, 0, 2}) {
			t.Error(x)
		}
		for _, row := range x.Next {
			spoil(row)
		}
		for _, other := range longHeights() {
			Level(made(t, other), 3)
		}
	}
}
