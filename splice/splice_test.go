package splice

import (
	"archipelago/api"
	"archipelago/tower"
	"math"
	"slices"
	"testing"
)

// noTokens are some numbers that no token is, or no tower's here.
var noTokens = []int{-1, 10001, 5555, -2, 1 << 31, 1 << 32, -1 << 32, math.MinInt, math.MaxInt}

// made is the tower of tokens and heights, that must be.
func made(t *testing.T, tokens, heights []int) api.Tower {
	t.Helper()
	x, e := tower.Build(tokens, heights)
	if e != api.OK {
		t.Fatal(tokens, heights, e)
	}
	return x
}

// allHeights are all lists of n heights, each 1, 2 or 8.
func allHeights(n int) [][]int {
	l := [][]int{nil}
	for range n {
		var longer [][]int
		for _, ahead := range l {
			for _, height := range []int{1, 2, 8} {
				longer = append(longer, append(slices.Clone(ahead), height))
			}
		}
		l = longer
	}
	return l
}

// smallTowers are all towers of one up to four nodes, of heights 1, 2 and 8, over tokens that begin with the least one, or with another one.
func smallTowers(t *testing.T, add int) []api.Tower {
	var l []api.Tower
	for n := 1; n <= 4; n++ {
		for _, heights := range allHeights(n) {
			l = append(l, made(t, []int{3 + add, 1 + add, 4 + add, 2 + add}[:n], heights))
		}
	}
	return append(l, made(t, []int{add, 5 + add, 2 + add}, []int{1, 3, 2}), made(t, []int{9 + add, 8 + add, 7 + add, 6 + add, 5 + add}, []int{1, 2, 3, 2, 1}))
}

// longTower is one of n tokens, from there on, with low nodes and high ones mixed.
func longTower(t *testing.T, n, from int) api.Tower {
	tokens, heights := make([]int, n), make([]int, n)
	for i := range n {
		tokens[i] = from + (i*7+n/2)%n
		heights[i] = 1 + i*i*7%11%8
	}
	if n%7 == 0 {
		t.Fatal(n, "would have tokens twice")
	}
	return made(t, tokens, heights)
}

// height is the height of a tower's token, looked for from one end to the other.
func height(x api.Tower, token int) int {
	for place, one := range x.Tokens {
		if one == token {
			return x.Heights[place]
		}
	}
	return 0
}

// heights are the heights that tokens have in any of some towers.
func heights(tokens []int, of ...api.Tower) []int {
	var l []int
	for _, token := range tokens {
		for _, x := range of {
			if h := height(x, token); h > 0 {
				l = append(l, h)
			}
		}
	}
	return l
}

// walked: the tokens that one comes by, going round from a token on, n of them.
func walked(tokens []int, from, n int) []int {
	var l []int
	place := slices.Index(tokens, from)
	for range n {
		l = append(l, tokens[place])
		place++
		if place == len(tokens) {
			place = 0
		}
	}
	return l
}

// joined: step by step, the tokens of a, from its least one on, and b's behind x.
func joined(a []int, x int, b []int, y int) []int {
	var l []int
	for _, token := range walked(a, slices.Min(a), len(a)) {
		l = append(l, token)
		if token == x {
			l = append(l, walked(b, y, len(b))...)
		}
	}
	return l
}

// parted: step by step, the tokens of l that stand behind x up to y, and the others, as they stand.
func parted(l []int, x, y int) (rest, part []int) {
	part = walked(l, x, 2)[1:]
	if len(l) == 1 {
		part = []int{y}
	}
	for n := 1; part[len(part)-1] != y; n++ {
		part = walked(l, x, n+1)[1:]
	}
	for _, token := range l {
		if !slices.Contains(part, token) {
			rest = append(rest, token)
		}
	}
	return rest, part
}

// is: is it the tower of just these tokens and heights?
func is(t *testing.T, x api.Tower, tokens, heights []int) bool {
	return slices.Equal(x.Tokens, tokens) && slices.Equal(x.Heights, heights) && slices.EqualFunc(x.Next, made(t, tokens, heights).Next, slices.Equal)
}

// none: has a tower nothing?
func none(x api.Tower) bool {
	return len(x.Tokens) == 0 && len(x.Heights) == 0 && len(x.Next) == 0
}

// copied: a tower of memory of its own.
func copied(x api.Tower) api.Tower {
	y := api.Tower{Tokens: slices.Clone(x.Tokens), Heights: slices.Clone(x.Heights)}
	for _, row := range x.Next {
		y.Next = append(y.Next, slices.Clone(row))
	}
	return y
}

// equal: is each list of two towers the same?
func equal(x, y api.Tower) bool {
	return slices.Equal(x.Tokens, y.Tokens) && slices.Equal(x.Heights, y.Heights) && slices.EqualFunc(x.Next, y.Next, slices.Equal)
}

// wrong are towers that aren't right, each but for one thing; tokens 1, 2, 3 are in most of them.
func wrong(t *testing.T) []api.Tower {
	l := []api.Tower{{}, {Tokens: []int{1}}, {Tokens: []int{}, Heights: []int{}, Next: [][]int{}}, {Tokens: []int{1}, Heights: []int{1}}}
	x := made(t, []int{1, 2, 3}, []int{1, 2, 1})
	change := func(f func(y *api.Tower)) {
		y := copied(x)
		f(&y)
		l = append(l, y)
	}
	for place := range x.Tokens {
		change(func(y *api.Tower) { y.Tokens[place] = -1 })
		change(func(y *api.Tower) { y.Tokens[place] = 10001 })
		change(func(y *api.Tower) { y.Tokens[place] = y.Tokens[(place+1)%3] })
		change(func(y *api.Tower) { y.Heights[place] = 0 })
		change(func(y *api.Tower) { y.Heights[place] = 9 })
		change(func(y *api.Tower) { y.Heights[place] = 3 })
		change(func(y *api.Tower) { y.Next[place] = nil })
		change(func(y *api.Tower) { y.Next[place] = append(y.Next[place], 0) })
		change(func(y *api.Tower) { y.Next[place][0] = place })
		change(func(y *api.Tower) { y.Next[place][0] = -1 })
		change(func(y *api.Tower) { y.Next[place][0] = math.MaxInt })
	}
	change(func(y *api.Tower) { y.Tokens = y.Tokens[:2] })
	change(func(y *api.Tower) { y.Heights = y.Heights[:2] })
	change(func(y *api.Tower) { y.Next = y.Next[:2] })
	change(func(y *api.Tower) { y.Tokens = append(y.Tokens, 4) })
	change(func(y *api.Tower) { y.Heights = append(y.Heights, 1) })
	change(func(y *api.Tower) { y.Next = append(y.Next, []int{0}) })
	many := api.Tower{}
	for place := range 1001 {
		many.Tokens, many.Heights, many.Next = append(many.Tokens, place), append(many.Heights, 1), append(many.Next, []int{(place + 1) % 1001})
	}
	return append(l, many)
}

// P15.1: Join, of towers that one can join by hand.
func TestJoinByHand(t *testing.T) {
	a, b := made(t, []int{1, 2, 3}, []int{1, 2, 1}), made(t, []int{6, 7}, []int{3, 1})
	turned := made(t, []int{3, 1, 2}, []int{1, 1, 2})
	for _, x := range []struct {
		a            api.Tower
		x            int
		b            api.Tower
		y            int
		tokens, high []int
		next         [][]int
	}{
		{a, 1, b, 6, []int{1, 6, 7, 2, 3}, []int{1, 3, 1, 2, 1}, [][]int{{1}, {2, 3, 1}, {3}, {4, 1}, {0}}},
		{a, 2, b, 7, []int{1, 2, 7, 6, 3}, []int{1, 2, 1, 3, 1}, [][]int{{1}, {2, 3}, {3}, {4, 1, 3}, {0}}},
		{a, 3, b, 6, []int{1, 2, 3, 6, 7}, []int{1, 2, 1, 3, 1}, [][]int{{1}, {2, 3}, {3}, {4, 1, 3}, {0}}},
		{turned, 3, b, 6, []int{1, 2, 3, 6, 7}, []int{1, 2, 1, 3, 1}, [][]int{{1}, {2, 3}, {3}, {4, 1, 3}, {0}}},
		{b, 7, turned, 2, []int{6, 7, 2, 3, 1}, []int{3, 1, 2, 1, 1}, [][]int{{1, 2, 0}, {2}, {3, 0}, {4}, {0}}},
		{b, 6, made(t, []int{0}, []int{8}), 0, []int{6, 0, 7}, []int{3, 8, 1}, [][]int{{1, 1, 1}, {2, 0, 0, 1, 1, 1, 1, 1}, {0}}},
	} {
		j, ok := Join(x.a, x.x, x.b, x.y)
		if !ok || !slices.Equal(j.Tokens, x.tokens) || !slices.Equal(j.Heights, x.high) || !slices.EqualFunc(j.Next, x.next, slices.Equal) {
			t.Error(x, j, ok)
		}
	}
}

// P15.1: Join, of all small towers, held against a walk step by step.
func TestJoin(t *testing.T) {
	others := append(smallTowers(t, 10)[:12:12], made(t, []int{0, 15, 2}, []int{1, 3, 2}), made(t, []int{19, 18, 17, 16, 15}, []int{1, 2, 3, 2, 1}), made(t, []int{0, 9999}, []int{2, 1}))
	for _, a := range smallTowers(t, 20) {
		for _, b := range others {
			for _, x := range a.Tokens {
				for _, y := range b.Tokens {
					tokens := joined(a.Tokens, x, b.Tokens, y)
					if j, ok := Join(a, x, b, y); !ok || !is(t, j, tokens, heights(tokens, a, b)) {
						t.Error(a, x, b, y, j, ok)
					}
				}
			}
		}
	}
}

// P15.1: Join of up to 1000 tokens, and not of one more.
func TestJoinLong(t *testing.T) {
	for _, n := range [][2]int{{1, 999}, {999, 1}, {500, 500}, {995, 5}, {37, 41}} {
		a, b := longTower(t, n[0], 3000), longTower(t, n[1], 1000)
		b.Tokens[0] = 10000
		x, y := a.Tokens[n[0]/2], b.Tokens[n[1]/2]
		tokens := joined(a.Tokens, x, b.Tokens, y)
		if j, ok := Join(a, x, b, y); !ok || !is(t, j, tokens, heights(tokens, a, b)) {
			t.Error(n, ok)
		}
	}
	for _, n := range [][2]int{{1, 1000}, {1000, 1}, {500, 501}, {1000, 1000}, {2, 999}} {
		a, b := longTower(t, n[0], 3000), longTower(t, n[1], 1000)
		if j, ok := Join(a, a.Tokens[0], b, b.Tokens[0]); ok || !none(j) {
			t.Error(n, ok)
		}
	}
}

// P15.1: no Join, unless x is in a, and y in b, and no token in both.
func TestJoinWrong(t *testing.T) {
	a, b := made(t, []int{1, 2, 3}, []int{1, 2, 1}), made(t, []int{6, 4}, []int{3, 1})
	for _, no := range append([]int{0, 5, 7}, noTokens...) {
		for _, x := range [][2]int{{no, 6}, {no, 4}, {1, no}, {3, no}, {no, no}} {
			if j, ok := Join(a, x[0], b, x[1]); ok || !none(j) {
				t.Error(x, j)
			}
		}
	}
	for _, x := range [][2]int{{6, 6}, {4, 1}, {6, 3}, {1, 1}, {2, 3}} {
		if j, ok := Join(a, x[0], b, x[1]); ok || !none(j) {
			t.Error(x, j)
		}
	}
	for _, both := range []api.Tower{a, made(t, []int{3}, []int{1}), made(t, []int{7, 2}, []int{1, 2}), made(t, []int{1, 9, 8}, []int{1, 2, 2})} {
		for _, x := range a.Tokens {
			for _, y := range both.Tokens {
				if j, ok := Join(a, x, both, y); ok || !none(j) {
					t.Error(both, x, y, j)
				}
				if j, ok := Join(both, y, a, x); ok || !none(j) {
					t.Error(both, y, x, j)
				}
			}
		}
	}
}

// P15.1: Cut, of towers that one can cut by hand: parts that go past the end, that begin, and that end the list.
func TestCutByHand(t *testing.T) {
	a := made(t, []int{5, 1, 2, 3}, []int{2, 1, 3, 2})
	for _, x := range []struct {
		x, y                           int
		rest, restHigh, part, partHigh []int
		restNext, partNext             [][]int
	}{
		{5, 1, []int{5, 2, 3}, []int{2, 3, 2}, []int{1}, []int{1}, [][]int{{1, 1}, {2, 2, 1}, {0, 0}}, [][]int{{0}}},
		{5, 2, []int{5, 3}, []int{2, 2}, []int{1, 2}, []int{1, 3}, [][]int{{1, 1}, {0, 0}}, [][]int{{1}, {0, 1, 1}}},
		{5, 3, []int{5}, []int{2}, []int{1, 2, 3}, []int{1, 3, 2}, [][]int{{0, 0}}, [][]int{{1}, {2, 2, 1}, {0, 1}}},
		{2, 5, []int{1, 2}, []int{1, 3}, []int{3, 5}, []int{2, 2}, [][]int{{1}, {0, 1, 1}}, [][]int{{1, 1}, {0, 0}}},
		{3, 5, []int{1, 2, 3}, []int{1, 3, 2}, []int{5}, []int{2}, [][]int{{1}, {2, 2, 1}, {0, 1}}, [][]int{{0, 0}}},
		{3, 2, []int{3}, []int{2}, []int{5, 1, 2}, []int{2, 1, 3}, [][]int{{0, 0}}, [][]int{{1, 2}, {2}, {0, 0, 2}}},
		{2, 1, []int{2}, []int{3}, []int{3, 5, 1}, []int{2, 2, 1}, [][]int{{0, 0, 0}}, [][]int{{1, 1}, {2, 0}, {0}}},
		{1, 3, []int{5, 1}, []int{2, 1}, []int{2, 3}, []int{3, 2}, [][]int{{1, 0}, {0}}, [][]int{{1, 1, 0}, {0, 0}}},
	} {
		rest, part, ok := Cut(a, x.x, x.y)
		if !ok || !slices.Equal(rest.Tokens, x.rest) || !slices.Equal(rest.Heights, x.restHigh) || !slices.EqualFunc(rest.Next, x.restNext, slices.Equal) {
			t.Error("rest", x, rest, ok)
		}
		if !slices.Equal(part.Tokens, x.part) || !slices.Equal(part.Heights, x.partHigh) || !slices.EqualFunc(part.Next, x.partNext, slices.Equal) {
			t.Error("part", x, part)
		}
	}
}

// P15.1: Cut, of all small towers and some long ones, held against a walk step by step.
func TestCut(t *testing.T) {
	towers := append(smallTowers(t, 0), smallTowers(t, 9900)...)
	for _, a := range append(towers, longTower(t, 60, 77)) {
		for _, x := range a.Tokens {
			for _, y := range a.Tokens {
				rest, part, ok := Cut(a, x, y)
				if x == y {
					continue
				}
				left, out := parted(a.Tokens, x, y)
				if !ok || !is(t, rest, left, heights(left, a)) || !is(t, part, out, heights(out, a)) {
					t.Error(a, x, y, rest, part, ok)
				}
			}
		}
	}
	a := longTower(t, 1000, 9001)
	for _, at := range [][2]int{{0, 999}, {999, 0}, {999, 998}, {0, 1}, {400, 700}, {700, 400}} {
		x, y := a.Tokens[at[0]], a.Tokens[at[1]]
		left, out := parted(a.Tokens, x, y)
		if rest, part, ok := Cut(a, x, y); !ok || !is(t, rest, left, heights(left, a)) || !is(t, part, out, heights(out, a)) {
			t.Error(at, ok)
		}
	}
}

// P15.1: no Cut, where the rest would have no token, or where one of the tokens isn't there.
func TestCutWrong(t *testing.T) {
	for _, a := range append(smallTowers(t, 0), longTower(t, 1000, 0)) {
		for _, x := range a.Tokens[:min(len(a.Tokens), 20)] {
			if rest, part, ok := Cut(a, x, x); ok || !none(rest) || !none(part) {
				t.Error(a, x, rest, part)
			}
		}
	}
	a := made(t, []int{3, 1, 2}, []int{1, 2, 1})
	for _, no := range append([]int{0, 4}, noTokens...) {
		for _, x := range [][2]int{{no, 3}, {3, no}, {1, no}, {no, 2}, {no, no}} {
			if rest, part, ok := Cut(a, x[0], x[1]); ok || !none(rest) || !none(part) {
				t.Error(x, rest, part)
			}
		}
	}
}

// P15.1: From, by hand, and of all small towers and a long one: it begins with the token, and each has its height.
func TestFrom(t *testing.T) {
	f, ok := From(made(t, []int{5, 1, 2, 3}, []int{2, 1, 3, 2}), 2)
	if !ok || !slices.Equal(f.Tokens, []int{2, 3, 5, 1}) || !slices.Equal(f.Heights, []int{3, 2, 2, 1}) || !slices.EqualFunc(f.Next, [][]int{{1, 1, 0}, {2, 2}, {3, 0}, {0}}, slices.Equal) {
		t.Error(f, ok)
	}
	for _, a := range append(smallTowers(t, 0), longTower(t, 60, 77), longTower(t, 1000, 9001)) {
		for i, token := range a.Tokens {
			if i%50 > 4 {
				continue
			}
			tokens := walked(a.Tokens, token, len(a.Tokens))
			if f, ok := From(a, token); !ok || !is(t, f, tokens, heights(tokens, a)) {
				t.Error(a, token, f, ok)
			}
		}
	}
}

// P15.1: no From, unless the token is there.
func TestFromWrong(t *testing.T) {
	for _, a := range []api.Tower{made(t, []int{3, 1, 2}, []int{1, 2, 1}), made(t, []int{10000}, []int{8}), longTower(t, 1000, 4)} {
		for _, no := range append([]int{0}, noTokens...) {
			if slices.Contains(a.Tokens, no) {
				continue
			}
			if f, ok := From(a, no); ok || !none(f) {
				t.Error(no, f)
			}
		}
	}
}

// P15.1: Links, by hand: by the tokens' places, not their size, and then by the levels.
func TestLinksByHand(t *testing.T) {
	for _, x := range []struct {
		a     api.Tower
		links []api.Link
	}{
		{made(t, []int{0}, []int{1}), []api.Link{{Token: 0, Level: 0, To: 0}}},
		{made(t, []int{7}, []int{3}), []api.Link{{Token: 7, Level: 0, To: 7}, {Token: 7, Level: 1, To: 7}, {Token: 7, Level: 2, To: 7}}},
		{made(t, []int{6, 7}, []int{3, 1}), []api.Link{{Token: 6, Level: 0, To: 7}, {Token: 6, Level: 1, To: 6}, {Token: 6, Level: 2, To: 6}, {Token: 7, Level: 0, To: 6}}},
		{made(t, []int{9, 0, 4, 2}, []int{1, 2, 1, 2}), []api.Link{{Token: 9, Level: 0, To: 0}, {Token: 0, Level: 0, To: 4}, {Token: 0, Level: 1, To: 2}, {Token: 4, Level: 0, To: 2}, {Token: 2, Level: 0, To: 9}, {Token: 2, Level: 1, To: 0}}},
	} {
		if l := Links(x.a); !slices.Equal(l, x.links) {
			t.Error(x, l)
		}
	}
}

// linked: step by step, the links of a tower: from each node on to the first one that is above the level.
func linked(x api.Tower) []api.Link {
	var l []api.Link
	for place, token := range x.Tokens {
		for level := 0; level < x.Heights[place]; level++ {
			for _, to := range append(walked(x.Tokens, token, len(x.Tokens)), token)[1:] {
				if height(x, to) > level {
					l = append(l, api.Link{Token: token, Level: level, To: to})
					break
				}
			}
		}
	}
	return l
}

// P15.1: Links, of all small towers and long ones, held against a walk step by step.
func TestLinks(t *testing.T) {
	for _, a := range append(smallTowers(t, 0), longTower(t, 60, 9), longTower(t, 257, 0)) {
		if l := Links(a); !slices.Equal(l, linked(a)) {
			t.Error(a, l)
		}
	}
	tokens, eights := make([]int, 1000), slices.Repeat([]int{8}, 1000)
	for i := range tokens {
		tokens[i] = 10000 - i
	}
	l := Links(made(t, tokens, eights))
	if len(l) != 8000 {
		t.Fatal(len(l))
	}
	for i, link := range l {
		if link != (api.Link{Token: 10000 - i/8, Level: i % 8, To: 10000 - (i/8+1)%1000}) {
			t.Fatal(i, link)
		}
	}
}

// last is where the last link of a token and a level tells; false, if there is none.
func last(l []api.Link, token, level int) (int, bool) {
	to, found := 0, false
	for _, link := range l {
		if link.Token == token && link.Level == level {
			to, found = link.To, true
		}
	}
	return to, found
}

// changed: pair by pair, how many are others.
func changed(a, b []api.Link) int {
	var met []api.Link
	count := 0
	for _, link := range slices.Concat(a, b) {
		pair := api.Link{Token: link.Token, Level: link.Level}
		if slices.Contains(met, pair) {
			continue
		}
		met = append(met, pair)
		before, wasThere := last(a, link.Token, link.Level)
		now, isThere := last(b, link.Token, link.Level)
		if wasThere != isThere || before != now {
			count++
		}
	}
	return count
}

// P15.1: Changed, of lists that one can hold against each other by hand: what is in one alone, and the last of each pair.
func TestChangedByHand(t *testing.T) {
	one, other := api.Link{Token: 1, Level: 2, To: 3}, api.Link{Token: 1, Level: 2, To: 4}
	for i, x := range []struct {
		a, b []api.Link
		want int
	}{
		{nil, nil, 0}, {[]api.Link{}, nil, 0}, {nil, []api.Link{}, 0},
		{[]api.Link{one}, nil, 1}, {nil, []api.Link{one}, 1}, {[]api.Link{{}}, nil, 1}, {nil, []api.Link{{}}, 1}, {[]api.Link{{}}, []api.Link{{}}, 0},
		{[]api.Link{one}, []api.Link{one}, 0}, {[]api.Link{one}, []api.Link{other}, 1},
		{[]api.Link{one, other}, []api.Link{other}, 0}, {[]api.Link{one, other}, []api.Link{one}, 1}, {[]api.Link{one}, []api.Link{other, one}, 0}, {[]api.Link{one}, []api.Link{one, other}, 1}, {[]api.Link{one, other}, []api.Link{other, one}, 1}, {[]api.Link{one, other, one}, []api.Link{one}, 0},
		{[]api.Link{one, other, one}, nil, 1}, {nil, []api.Link{one, one}, 1},
		{[]api.Link{{Token: 1, Level: 2, To: 0}}, nil, 1}, {nil, []api.Link{{Token: 1, Level: 2, To: 0}}, 1},
		{[]api.Link{{Token: 1, Level: 2, To: 5}}, []api.Link{{Token: 2, Level: 1, To: 5}}, 2},
		{[]api.Link{{Token: 1, Level: 2, To: 5}}, []api.Link{{Token: 1, Level: 3, To: 5}}, 2},
		{[]api.Link{{Token: 1, Level: 2, To: 5}}, []api.Link{{Token: 5, Level: 2, To: 1}}, 2},
		{[]api.Link{{Token: -1, Level: 0, To: 5}, {Token: math.MinInt, Level: math.MaxInt, To: math.MinInt}}, []api.Link{{Token: math.MinInt, Level: math.MaxInt, To: math.MaxInt}, {Token: -1, Level: 0, To: 5}}, 1},
		{[]api.Link{{Token: 1 << 32, Level: 0, To: 1}}, []api.Link{{Token: 0, Level: 1 << 32, To: 1}, {Token: 0, Level: 0, To: 1}}, 3},
		{[]api.Link{{Token: 0, Level: 8, To: 1}, {Token: 1, Level: 0, To: 1}}, []api.Link{{Token: 1, Level: 0, To: 1}, {Token: 0, Level: 8, To: 1}}, 0},
		{[]api.Link{{Token: 0, Level: 8, To: 1}}, []api.Link{{Token: 1, Level: 0, To: 1}}, 2}, {[]api.Link{{Token: 0, Level: 1000, To: 1}}, []api.Link{{Token: 1, Level: 0, To: 1}}, 2},
		{[]api.Link{{Token: 0, Level: 1, To: 1}}, []api.Link{{Token: 0, Level: 1, To: 1<<32 + 1}}, 1},
	} {
		if n := Changed(x.a, x.b); n != x.want {
			t.Error(i, x, n)
		}
	}
}

// P15.1: Changed, of all lists of up to three links of some kinds, held against a count pair by pair, and the other way round.
func TestChanged(t *testing.T) {
	kinds := []api.Link{{}, {To: 1}, {Token: 1}, {Level: 1}, {Level: 1, To: -1}}
	lists := [][]api.Link{nil}
	from := 0
	for range 3 {
		to := len(lists)
		for _, ahead := range lists[from:to] {
			for _, kind := range kinds {
				lists = append(lists, append(slices.Clone(ahead), kind))
			}
		}
		from = to
	}
	for _, a := range lists {
		for _, b := range lists {
			if n := Changed(a, b); n != changed(a, b) {
				t.Error(a, b, n)
			}
		}
	}
	all := Links(made(t, longTower(t, 1000, 0).Tokens, slices.Repeat([]int{8}, 1000)))
	for _, x := range [][2][]api.Link{{all, nil}, {nil, all}, {all[:4000], all[4000:]}} {
		if n := Changed(x[0], x[1]); n != 8000 {
			t.Error(n)
		}
	}
	if n := Changed(all, slices.Concat(all, all)); n != 0 {
		t.Error(n)
	}
}

// P15.1: Height, of each token that is there; 0 of others.
func TestHeight(t *testing.T) {
	for _, a := range append(smallTowers(t, 0), smallTowers(t, 9900)...) {
		for token := -2; token <= 10001; token++ {
			if token == 12 {
				token = 9899
			}
			if h := Height(a, token); h != height(a, token) {
				t.Error(a, token, h)
			}
		}
		for _, no := range noTokens {
			if h := Height(a, no); h != 0 {
				t.Error(a, no, h)
			}
		}
	}
	long := longTower(t, 1000, 9001)
	for _, place := range []int{0, 1, 500, 998, 999} {
		if h := Height(long, long.Tokens[place]); h != long.Heights[place] {
			t.Error(place, h)
		}
	}
}

// P15.1: no tower, no links, and 0, unless all that are handed in are right.
func TestWrongTowers(t *testing.T) {
	good := made(t, []int{5, 6}, []int{1, 2})
	for _, bad := range wrong(t) {
		for _, token := range []int{0, 1, 2, 3, 4, -1, 10001} {
			for _, y := range []int{1, 2, 3, 5, 6} {
				for _, x := range []struct{ a, b api.Tower }{{bad, good}, {good, bad}, {bad, bad}} {
					if j, ok := Join(x.a, token, x.b, y); ok || !none(j) {
						t.Error("Join", bad, token, y)
					}
					if j, ok := Join(x.a, y, x.b, token); ok || !none(j) {
						t.Error("Join", bad, y, token)
					}
				}
				if rest, part, ok := Cut(bad, token, y); ok || !none(rest) || !none(part) {
					t.Error("Cut", bad, token, y)
				}
			}
			if f, ok := From(bad, token); ok || !none(f) {
				t.Error("From", bad, token)
			}
			if h := Height(bad, token); h != 0 {
				t.Error("Height", bad, token, h)
			}
		}
		if l := Links(bad); len(l) != 0 {
			t.Error("Links", bad, l)
		}
	}
}

// roomy: a tower all whose lists have room to spare, filled with numbers of which none may be lost.
func roomy(x api.Tower) api.Tower {
	spare := func(l []int) []int { return append(slices.Clone(l), 71, 72, 73)[:len(l)] }
	y := api.Tower{Tokens: spare(x.Tokens), Heights: spare(x.Heights)}
	for _, row := range x.Next {
		y.Next = append(y.Next, spare(row))
	}
	y.Next = append(y.Next, []int{74})[:len(y.Next)]
	return y
}

// whole: a tower with what is in its spare room.
func whole(x api.Tower) api.Tower {
	y := api.Tower{Tokens: x.Tokens[:cap(x.Tokens)], Heights: x.Heights[:cap(x.Heights)]}
	for _, row := range x.Next[:cap(x.Next)] {
		y.Next = append(y.Next, row[:cap(row)])
	}
	return y
}

// spoil: all that is in a tower, its spare room too.
func spoil(x api.Tower) {
	y := whole(x)
	for _, l := range append(y.Next, y.Tokens, y.Heights) {
		for i := range l {
			l[i] = -77
		}
	}
}

// P15.1: what is handed in is not changed, its spare room neither; what is answered shares nothing with it, and no two towers of one answer share anything.
func TestShares(t *testing.T) {
	a, b := roomy(made(t, []int{3, 1, 4, 2}, []int{1, 2, 1, 3})), roomy(made(t, []int{6, 7}, []int{3, 1}))
	wasA, wasB := copied(whole(a)), copied(whole(b))
	links := append(slices.Clone(Links(a)), api.Link{Token: 9, To: 9})
	links = links[:len(links)-1]
	wasLinks := slices.Clone(links[:cap(links)])
	for _, x := range []int{1, 2, 3, 4} {
		j, _ := Join(a, x, b, 7)
		wanted := copied(j)
		f, _ := From(a, x)
		rest, part, _ := Cut(a, x, x%4+1)
		wantedPart := copied(part)
		spoil(f)
		spoil(rest)
		if !equal(part, wantedPart) || !equal(j, wanted) {
			t.Error("answers share", x)
		}
		spoil(part)
		spoil(j)
		again, _ := Join(a, x, b, 7)
		if !equal(again, wanted) {
			t.Error("again", x, again)
		}
	}
	if n := Changed(links, links[1:]); n != 1 || Height(a, 2) != 3 {
		t.Error(n)
	}
	l := Links(a)
	for i := range l[:cap(l)] {
		l[:cap(l)][i].To = -77
	}
	if !equal(whole(a), wasA) || !equal(whole(b), wasB) || !slices.Equal(links[:cap(links)], wasLinks) {
		t.Error(a, b, links)
	}
}

// eachCut cuts all small towers and some long ones, in each way, or of a very long one in some.
func eachCut(t *testing.T, look func(a api.Tower, x, y int, rest, part api.Tower)) {
	for _, a := range append(smallTowers(t, 0), longTower(t, 30, 77), longTower(t, 1000, 9001)) {
		for i, x := range a.Tokens {
			for k, y := range a.Tokens {
				if x == y || len(a.Tokens) == 1000 && (i%333 > 0 || k%166 > 1) {
					continue
				}
				rest, part, ok := Cut(a, x, y)
				if !ok {
					t.Fatal(a, x, y)
				}
				look(a, x, y, rest, part)
			}
		}
	}
}

// P15.2: cut and joined again as it was, it has its links again, and is the same tower again.
func TestThereAndBack(t *testing.T) {
	eachCut(t, func(a api.Tower, x, y int, rest, part api.Tower) {
		back, ok := Join(rest, x, part, part.Tokens[0])
		if !ok || Changed(Links(a), Links(back)) != 0 || len(Links(a)) != len(Links(back)) {
			t.Fatal(a, x, y, back)
		}
		if same, _ := From(back, a.Tokens[0]); !slices.Equal(Links(same), Links(a)) || !tower.Same(same, a) {
			t.Fatal(a, x, y, same)
		}
	})
}

// P15.2: joined, and cut again, both have their links again.
func TestJoinedAndCut(t *testing.T) {
	for _, a := range smallTowers(t, 20) {
		for _, b := range smallTowers(t, 10) {
			x, y := a.Tokens[len(a.Tokens)-1], b.Tokens[len(b.Tokens)/2]
			j, _ := Join(a, x, b, y)
			end := walked(b.Tokens, y, len(b.Tokens))[len(b.Tokens)-1]
			rest, part, ok := Cut(j, x, end)
			if !ok || Changed(Links(rest), Links(a)) != 0 || Changed(Links(part), Links(b)) != 0 {
				t.Fatal(a, b, rest, part)
			}
		}
	}
}

// ofLevel are the links of a level.
func ofLevel(l []api.Link, level int) []api.Link {
	return slices.DeleteFunc(slices.Clone(l), func(link api.Link) bool { return link.Level != level })
}

// P15.2: a cut changes two links of each level at most: just two where both sides have nodes above it, else none.
func TestCutChangesFew(t *testing.T) {
	eachCut(t, func(a api.Tower, x, y int, rest, part api.Tower) {
		before, after := Links(a), slices.Concat(Links(rest), Links(part))
		if len(before) != len(after) {
			t.Fatal(a, x, y, len(before), len(after))
		}
		for level := range 8 {
			wanted := 0
			if slices.Max(rest.Heights) > level && slices.Max(part.Heights) > level {
				wanted = 2
			}
			if n := Changed(ofLevel(before, level), ofLevel(after, level)); n != wanted {
				t.Fatal(a, x, y, level, n)
			}
		}
	})
}

// P15.1: all the same, asked again, of the chapter's example: cut behind 1 up to 2, and joined behind 1 again.
func TestExample(t *testing.T) {
	a := made(t, []int{0, 1, 2, 3}, []int{1, 3, 2, 1})
	for range 3 {
		rest, part, ok := Cut(a, 1, 2)
		if !ok || !is(t, rest, []int{0, 1, 3}, []int{1, 3, 1}) || !is(t, part, []int{2}, []int{2}) {
			t.Error(rest, part, ok)
		}
		if back, ok := Join(rest, 1, part, 2); !ok || !slices.Equal(Links(back), Links(a)) {
			t.Error(back, ok)
		}
	}
}
