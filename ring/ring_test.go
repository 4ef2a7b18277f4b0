package ring

import (
	"math"
	"math/big"
	"slices"
	"testing"
)

// noTokens are some numbers that no token is.
var noTokens = []int{-1, 10001, -2, 10002, 1 << 31, 1 << 32, 1<<32 + 5, -1<<32 + 5, math.MinInt, math.MaxInt}

// fars are how many places on, or back, one goes, up to the edges of all numbers.
var fars = []int{
	0, 1, -1, 2, -2, 3, -3, 4, -4, 5, -5, 7, -7, 59, 60, 61, -59, -60, -61, 999, 1000, 1001, -999, -1000, -1001,
	1 << 31, -1 << 31, 1<<32 + 1, -1<<32 - 1, 1 << 62, math.MaxInt, math.MaxInt - 1, math.MaxInt - 999, math.MinInt, math.MinInt + 1, math.MinInt + 999,
}

// orders are all orders of a list.
func orders(l []int) [][]int {
	if len(l) == 0 {
		return [][]int{nil}
	}
	var all [][]int
	for i, token := range l {
		rest := slices.Delete(slices.Clone(l), i, i+1)
		for _, order := range orders(rest) {
			all = append(all, append([]int{token}, order...))
		}
	}
	return all
}

// allLists are all lists of up to n numbers, each one of those.
func allLists(n int, kinds []int) [][]int {
	l, last := [][]int{nil}, [][]int{nil}
	for range n {
		var longer [][]int
		for _, ahead := range last {
			for _, kind := range kinds {
				longer = append(longer, append(slices.Clone(ahead), kind))
			}
		}
		l, last = append(l, longer...), longer
	}
	return l
}

// smallRings are all orders of few tokens each, the edges among them.
func smallRings() [][]int {
	var l [][]int
	for _, tokens := range [][]int{{}, {0}, {10000}, {77}, {0, 10000}, {3, 1, 2}, {0, 9, 10000, 5}, {8, 6, 7, 0, 9999}} {
		l = append(l, orders(tokens)...)
	}
	return l
}

// longRing is a ring of n tokens from a first one on, each so many beyond the one ahead of it, going round from the last to the
// first one; each is there once, if n and by have no divisor in common.
func longRing(n, first, by int) []int {
	var l []int
	for i := range n {
		l = append(l, first+i*by%n)
	}
	return l
}

// wrong are lists that are no rings that may be, most of them but for one thing.
func wrong() [][]int {
	l := [][]int{{3, 3}, {0, 0}, {10000, 10000}, {1, 2, 1}, {1, 2, 2}, {2, 2, 1}, {5, 1, 5, 1}, make([]int, 1000), make([]int, 1001), make([]int, 2000)}
	for _, no := range noTokens {
		l = append(l, []int{no}, []int{no, 1, 2}, []int{1, no, 2}, []int{1, 2, no})
	}
	l = append(l, longRing(1001, 0, 1), longRing(1001, 9000, 10), longRing(2000, 0, 7))
	twice, low, high := longRing(1000, 0, 7), longRing(1000, 0, 7), longRing(1000, 9001, 7)
	twice[999], low[500], high[0] = twice[0], -1, 10001
	return append(l, twice, low, high, append(longRing(1000, 0, 3), 0))
}

// turns are a ring's lists, as it begins with each of its tokens.
func turns(l []int) [][]int {
	var all [][]int
	turn := slices.Clone(l)
	for range l {
		all = append(all, slices.Clone(turn))
		turn = append(turn[1:len(turn):len(turn)], turn[0])
	}
	return all
}

// from is the one of a ring's lists that begins with a token, or none.
func from(l []int, token int) []int {
	for _, turn := range turns(l) {
		if turn[0] == token {
			return turn
		}
	}
	return nil
}

// plain is the least one of a ring's lists.
func plain(l []int) []int {
	if len(l) == 0 {
		return nil
	}
	return slices.MinFunc(turns(l), slices.Compare[[]int])
}

// joined is a ring gone round from its least token, and the other one, on the way, from y on.
func joined(a []int, x int, b []int, y int) []int {
	var l []int
	for _, token := range plain(a) {
		l = append(l, token)
		if token == x {
			l = append(l, from(b, y)...)
		}
	}
	return l
}

// cut is a part of a ring that is gone round, token by token, from behind x up to y, and what of the list isn't in it.
func cut(l []int, x, y int) (rest, part []int) {
	place := slices.Index(l, x)
	for len(part) == 0 || part[len(part)-1] != y {
		place++
		if place == len(l) {
			place = 0
		}
		part = append(part, l[place])
	}
	for _, token := range l {
		if !slices.Contains(part, token) {
			rest = append(rest, token)
		}
	}
	return rest, part
}

// next is the token so many places on, in numbers that have no edge.
func next(l []int, token, by int) int {
	place := big.NewInt(int64(slices.Index(l, token)))
	place.Add(place, big.NewInt(int64(by)))
	place.Mod(place, big.NewInt(int64(len(l))))
	return l[place.Int64()]
}

// P13.1: Right, of lists that one can go through by hand: the edges of tokens, and of how many.
func TestRightByHand(t *testing.T) {
	for _, l := range [][]int{nil, {}, {0}, {10000}, {0, 10000}, {5, 9, 2, 7}, longRing(999, 0, 1), longRing(1000, 0, 7), longRing(1000, 9001, 1)} {
		if !Right(l) {
			t.Error(l)
		}
	}
	for _, l := range wrong() {
		if Right(l) {
			t.Error(l)
		}
	}
}

// P13.1: Right, of all lists of few numbers.
func TestRightAllLists(t *testing.T) {
	kinds := []int{-1, 0, 1, 9999, 10000, 10001}
	for _, l := range allLists(5, kinds) {
		counts := map[int]int{}
		wanted := true
		for _, token := range l {
			counts[token]++
			wanted = wanted && token >= 0 && token <= 10000 && counts[token] == 1
		}
		if Right(l) != wanted {
			t.Error(l, wanted)
		}
	}
}

// P13.1: a ring may be of any thousand tokens; one of them twice, at whatever places, is one too many.
func TestRightTwice(t *testing.T) {
	for _, n := range []int{2, 3, 40, 1000} {
		for _, by := range []int{1, 7} {
			l := longRing(n, 10001-n, by)
			for i := range 40 {
				a, b := i*n/40, (n-1)*(i%7)/6
				if a == b {
					continue
				}
				was := l[a]
				l[a] = l[b]
				if Right(l) {
					t.Error(n, by, a, b)
				}
				l[a] = was
			}
			if !Right(l) {
				t.Error(n, by)
			}
		}
	}
}

// P13.1: Plain and From, of rings that one can go through by hand.
func TestPlainAndFromByHand(t *testing.T) {
	for _, x := range []struct {
		l, plain []int
		token    int
		from     []int
	}{
		{[]int{0}, []int{0}, 0, []int{0}},
		{[]int{10000, 0}, []int{0, 10000}, 10000, []int{10000, 0}},
		{[]int{5, 9, 2, 7}, []int{2, 7, 5, 9}, 9, []int{9, 2, 7, 5}},
		{[]int{5, 9, 2, 7}, []int{2, 7, 5, 9}, 5, []int{5, 9, 2, 7}},
		{[]int{1, 3, 2}, []int{1, 3, 2}, 2, []int{2, 1, 3}},
		{[]int{3, 2, 1}, []int{1, 3, 2}, 1, []int{1, 3, 2}},
	} {
		if l := Plain(x.l); !slices.Equal(l, x.plain) {
			t.Error("Plain", x, l)
		}
		if l, ok := From(x.l, x.token); !ok || !slices.Equal(l, x.from) {
			t.Error("From", x, l, ok)
		}
	}
	if len(Plain(nil)) != 0 || len(Plain([]int{})) != 0 {
		t.Error("of none")
	}
}

// P13.1: Plain and From, of all small rings, and of long ones, by all tokens, and by some that aren't there.
func TestPlainAndFrom(t *testing.T) {
	rings := append(smallRings(), longRing(60, 103, 7), longRing(1000, 9001, 333))
	for _, l := range rings {
		if p := Plain(l); !slices.Equal(p, plain(l)) {
			t.Error("Plain", l, p)
		}
		for i, token := range l {
			if i%41 != 0 && len(l) > 100 {
				continue
			}
			if m, ok := From(l, token); !ok || !slices.Equal(m, from(l, token)) {
				t.Error("From", l, token, m, ok)
			}
		}
		for _, token := range append([]int{4, 2000, 9000}, noTokens...) {
			if m, ok := From(l, token); ok || len(m) != 0 {
				t.Error("From", l, token, m, ok)
			}
		}
	}
}

// P13.1: Next, of rings that one can go through by hand.
func TestNextByHand(t *testing.T) {
	l := []int{5, 9, 2}
	for _, x := range []struct{ token, by, wanted int }{
		{5, 0, 5}, {5, 1, 9}, {5, 2, 2}, {5, 3, 5}, {5, 4, 9}, {2, 1, 5}, {2, -1, 9}, {5, -1, 2}, {9, -2, 2}, {9, -3, 9}, {9, -4, 5},
		{5, 300, 5}, {5, -300, 5}, {2, 301, 5}, {5, -301, 2}, {5, 1 << 62, 9}, {9, math.MaxInt, 2}, {5, math.MinInt, 9}, {2, math.MinInt, 5},
	} {
		if token, ok := Next(l, x.token, x.by); !ok || token != x.wanted {
			t.Error(x, token, ok)
		}
	}
	for _, by := range fars {
		if token, ok := Next([]int{10000}, 10000, by); !ok || token != 10000 {
			t.Error(by, token, ok)
		}
	}
}

// P13.1: Next, of all small rings, and of long ones, by all tokens, so far as one likes; a token that isn't there has none.
func TestNext(t *testing.T) {
	for _, l := range append(smallRings(), longRing(60, 103, 7), longRing(61, 100, 5), longRing(1000, 9001, 333)) {
		for _, by := range fars {
			for i, token := range l {
				if i%41 != 0 && i != len(l)-1 && len(l) > 100 {
					continue
				}
				if other, ok := Next(l, token, by); !ok || other != next(l, token, by) {
					t.Error(l, token, by, other, ok)
				}
			}
			for _, token := range append([]int{4, 2000, 9000}, noTokens...) {
				if other, ok := Next(l, token, by); ok || other != 0 {
					t.Error(l, token, by, other, ok)
				}
			}
		}
	}
}

// P13.1: Join, of rings that one can go through by hand: the first one as it is least, even if the other one has a lesser token.
func TestJoinByHand(t *testing.T) {
	for _, x := range []struct {
		a      []int
		x      int
		b      []int
		y      int
		wanted []int
	}{
		{[]int{1}, 1, []int{0}, 0, []int{1, 0}},
		{[]int{0}, 0, []int{10000}, 10000, []int{0, 10000}},
		{[]int{5, 9, 2, 7}, 9, []int{1, 3, 4}, 4, []int{2, 7, 5, 9, 4, 1, 3}},
		{[]int{5, 9, 2, 7}, 7, []int{1, 3, 4}, 1, []int{2, 7, 1, 3, 4, 5, 9}},
		{[]int{2, 7}, 2, []int{8, 0, 6}, 6, []int{2, 6, 8, 0, 7}},
		{[]int{7, 2}, 7, []int{8, 0, 6}, 0, []int{2, 7, 0, 6, 8}},
	} {
		if l, ok := Join(x.a, x.x, x.b, x.y); !ok || !slices.Equal(l, x.wanted) {
			t.Error(x, l, ok)
		}
	}
}

// P13.1: Join, of all small rings with all others, by all tokens: none, where a token is in both, or isn't there, or a ring has none.
func TestJoin(t *testing.T) {
	rings := smallRings()
	for i, a := range rings {
		for k, b := range rings {
			if len(a)+len(b) > 7 && (i+k)%11 != 0 {
				continue
			}
			both := slices.ContainsFunc(a, func(token int) bool { return slices.Contains(b, token) })
			for _, x := range append([]int{4, -1}, a...) {
				for _, y := range append([]int{4, -1}, b...) {
					l, ok := Join(a, x, b, y)
					if both || !slices.Contains(a, x) || !slices.Contains(b, y) {
						if ok || len(l) != 0 {
							t.Fatal(a, x, b, y, l, ok)
						}
					} else if !ok || !slices.Equal(l, joined(a, x, b, y)) {
						t.Fatal(a, x, b, y, l, ok)
					}
				}
			}
		}
	}
}

// P13.1: a token of the one is no token of the other one: each must be in its own ring.
func TestJoinEachInItsOwn(t *testing.T) {
	a, b := []int{5, 9}, []int{1, 3}
	for _, x := range [][2]int{{1, 1}, {1, 5}, {5, 5}, {9, 9}, {3, 9}, {5, 4}, {4, 1}} {
		if l, ok := Join(a, x[0], b, x[1]); ok || len(l) != 0 {
			t.Error(x, l, ok)
		}
	}
	if l, ok := Join(a, 5, a, 5); ok || len(l) != 0 {
		t.Error("with itself", l, ok)
	}
	if l, ok := Join(a, 5, []int{1, 9}, 1); ok || len(l) != 0 {
		t.Error("in both", l, ok)
	}
	if l, ok := Join(nil, 0, b, 1); ok || len(l) != 0 {
		t.Error("none ahead", l, ok)
	}
	if l, ok := Join(a, 5, nil, 0); ok || len(l) != 0 {
		t.Error("none behind", l, ok)
	}
}

// P13.1: just a thousand tokens are joined, one more isn't.
func TestJoinUpToFull(t *testing.T) {
	for _, n := range []int{1, 2, 400, 500, 999} {
		a, b := longRing(n, 0, 1), longRing(1000-n, 9001, 1009)
		for _, x := range []int{0, n / 2, n - 1} {
			for _, y := range []int{9001, 9001 + (1000-n)/2, 10000 - n} {
				if l, ok := Join(a, x, b, y); !ok || !slices.Equal(l, joined(a, x, b, y)) {
					t.Error(n, x, y, len(l), ok)
				}
			}
		}
		if l, ok := Join(append(a, n), 0, b, 9001); ok || len(l) != 0 {
			t.Error(n, len(l), ok)
		}
		if l, ok := Join(a, 0, append(b, 5000), 9001); ok || len(l) != 0 {
			t.Error(n, len(l), ok)
		}
	}
	if l, ok := Join(longRing(1000, 0, 1), 0, longRing(1000, 5000, 1), 5000); ok || len(l) != 0 {
		t.Error("two of a thousand", len(l), ok)
	}
}

// P13.1: Cut, of rings that one can go through by hand: both as they are, the rest as the list begins.
func TestCutByHand(t *testing.T) {
	l := []int{5, 9, 2, 7}
	for _, x := range []struct {
		l          []int
		x, y       int
		rest, part []int
	}{
		{[]int{0, 1, 2, 3}, 1, 2, []int{0, 1, 3}, []int{2}},
		{l, 5, 9, []int{5, 2, 7}, []int{9}}, {l, 5, 2, []int{5, 7}, []int{9, 2}}, {l, 5, 7, []int{5}, []int{9, 2, 7}},
		{l, 7, 5, []int{9, 2, 7}, []int{5}}, {l, 7, 2, []int{7}, []int{5, 9, 2}}, {l, 2, 5, []int{9, 2}, []int{7, 5}}, {l, 9, 5, []int{9}, []int{2, 7, 5}},
		{l, 5, 5, nil, []int{9, 2, 7, 5}}, {l, 7, 7, nil, []int{5, 9, 2, 7}}, {l, 9, 9, nil, []int{2, 7, 5, 9}},
		{[]int{8}, 8, 8, nil, []int{8}},
	} {
		if rest, part, ok := Cut(x.l, x.x, x.y); !ok || !slices.Equal(rest, x.rest) || !slices.Equal(part, x.part) {
			t.Error(x, rest, part, ok)
		}
	}
}

// P13.1: Cut, of all small rings, and of long ones, by all tokens; none, unless both are there.
func TestCut(t *testing.T) {
	for _, l := range append(smallRings(), longRing(60, 103, 7), longRing(1000, 9001, 333)) {
		for i, x := range l {
			for k, y := range l {
				if len(l) > 100 && (i%173 != 0 || k%97 != 0) {
					continue
				}
				rest, part, ok := Cut(l, x, y)
				wantedRest, wantedPart := cut(l, x, y)
				if !ok || !slices.Equal(rest, wantedRest) || !slices.Equal(part, wantedPart) {
					t.Fatal(l, x, y, rest, part, ok)
				}
			}
		}
		there := append([]int{4}, l[:min(5, len(l))]...)
		for _, no := range append([]int{4, 2000, 9000}, noTokens...) {
			for _, token := range there {
				for _, x := range [][2]int{{no, token}, {token, no}, {no, no}} {
					if rest, part, ok := Cut(l, x[0], x[1]); ok || len(rest) != 0 || len(part) != 0 {
						t.Fatal(l, x, rest, part, ok)
					}
				}
			}
		}
	}
}

// P13.1: Same, of all small rings with all others: the same, just if the one is a turn of the other one.
func TestSame(t *testing.T) {
	rings := append(smallRings(), longRing(60, 103, 7), longRing(60, 103, 11), longRing(1000, 0, 7), longRing(1000, 0, 9))
	for _, a := range rings {
		for _, b := range rings {
			wanted := len(a) == 0 && len(b) == 0
			if len(a) == len(b) && len(a) > 0 {
				wanted = slices.Equal(from(a, b[0]), b)
			}
			if Same(a, b) != wanted {
				t.Error(a, b, wanted)
			}
		}
	}
	long := longRing(1000, 9001, 333)
	for _, turn := range turns(long)[:60] {
		if !Same(long, turn) || !Same(turn, long) {
			t.Error(turn[0])
		}
		turn[3], turn[700] = turn[700], turn[3]
		if Same(long, turn) {
			t.Error(turn[0])
		}
	}
}

// P13.1: of a list that may be no ring each call answers none and false, whichever place it comes in at.
func TestWrong(t *testing.T) {
	good := []int{5004, 5009}
	for i, l := range wrong() {
		if m := Plain(l); len(m) != 0 {
			t.Error("Plain", i, m)
		}
		if Same(l, l) || Same(l, good) || Same(good, l) || Same(l, nil) || Same(nil, l) {
			t.Error("Same", i)
		}
		for _, token := range l[:min(3, len(l))] {
			if m, ok := From(l, token); ok || len(m) != 0 {
				t.Error("From", i, token, m, ok)
			}
			if other, ok := Next(l, token, 1); ok || other != 0 {
				t.Error("Next", i, token, other, ok)
			}
			if m, ok := Join(l, token, good, 5004); ok || len(m) != 0 {
				t.Error("Join", i, token, m, ok)
			}
			if m, ok := Join(good, 5004, l, token); ok || len(m) != 0 {
				t.Error("Join", i, token, m, ok)
			}
			for _, other := range []int{token, l[len(l)-1]} {
				if rest, part, ok := Cut(l, token, other); ok || len(rest) != 0 || len(part) != 0 {
					t.Error("Cut", i, token, other, rest, part, ok)
				}
			}
		}
	}
}

// thereAndBack: is what is joined behind x cut out there again, and both are as they were?
func thereAndBack(t *testing.T, a []int, x int, b []int, y int) {
	t.Helper()
	l, ok := Join(a, x, b, y)
	if !ok {
		t.Fatal("Join", a, x, b, y)
	}
	last, _ := Next(b, y, -1)
	rest, part, ok := Cut(l, x, last)
	if !ok || !slices.Equal(rest, plain(a)) || !slices.Equal(part, from(b, y)) || !Same(rest, a) || !Same(part, b) {
		t.Fatal(a, x, b, y, l, rest, part, ok)
	}
	if again, ok := Join(rest, x, part, y); !ok || !slices.Equal(again, l) {
		t.Fatal(a, x, b, y, l, again, ok)
	}
}

// P13.2: what is joined behind a token is cut out there again, of small rings by all tokens, of long ones by some.
func TestThereAndBack(t *testing.T) {
	var others [][]int
	for _, tokens := range [][]int{{4}, {9998, 11}, {12, 4, 13}, {4, 11, 12, 9998}} {
		others = append(others, orders(tokens)...)
	}
	for _, a := range smallRings() {
		for _, b := range others {
			for _, x := range a {
				for _, y := range b {
					thereAndBack(t, a, x, b, y)
					thereAndBack(t, b, y, a, x)
				}
			}
		}
	}
	for n := 1; n < 1000; n += 83 {
		for i := range 5 {
			a, b := longRing(n, 5000, 1009), longRing(1000-n, 0, 1013)
			thereAndBack(t, a, a[i*(n-1)/4], b, b[i*(999-n)/4])
		}
	}
}

// P13.2: a part that was cut out, and is joined there again, leaves the ring as it was.
func TestCutAndJoined(t *testing.T) {
	for _, l := range append(smallRings(), longRing(60, 103, 7)) {
		for _, x := range l {
			for _, y := range l {
				if x == y {
					continue
				}
				rest, part, ok := Cut(l, x, y)
				if !ok || !Right(rest) || !Right(part) {
					t.Fatal(l, x, y, rest, part, ok)
				}
				again, ok := Join(rest, x, part, part[0])
				if !ok || !Same(again, l) {
					t.Fatal(l, x, y, rest, part, again, ok)
				}
			}
		}
	}
}

// spoil writes over all that a list has, and over the room behind it.
func spoil(l []int) {
	l = l[:cap(l)]
	for i := range l {
		l[i] = 7777
	}
}

// P13.1: what is handed in is not changed, nor its spare room, and what is answered shares nothing with it.
func TestLeavesArguments(t *testing.T) {
	for _, was := range append(append(smallRings(), longRing(400, 0, 7)), wrong()...) {
		a, b := append(slices.Clone(was), 21, 22), []int{5004, 5009, 5001, 21, 22}
		wasA, wasB := slices.Clone(a), slices.Clone(b)
		l, other := a[:len(was)], b[:3]
		for i, token := range append([]int{4}, was[:min(5, len(was))]...) {
			spoil(Plain(l))
			turn, _ := From(l, token)
			spoil(turn)
			more, _ := Join(l, token, other, 5009)
			spoil(more)
			more, _ = Join(other, 5001, l, token)
			spoil(more)
			rest, part, _ := Cut(l, token, wasA[(i+1)%len(wasA)])
			spoil(rest)
			spoil(part)
			Next(l, token, 5)
			Right(l)
			Same(l, other)
			if !slices.Equal(a, wasA) || !slices.Equal(b, wasB) {
				t.Fatal(was, token, a, b)
			}
		}
	}
}

// P13.1: what is written over the one that Cut answers, or over the room behind it, leaves the other one as it is.
func TestCutSharesNothing(t *testing.T) {
	for _, l := range smallRings() {
		for _, x := range l {
			for _, y := range l {
				wantedRest, wantedPart := cut(l, x, y)
				rest, part, _ := Cut(l, x, y)
				spoil(rest)
				if !slices.Equal(part, wantedPart) {
					t.Fatal(l, x, y, part)
				}
				rest, part, _ = Cut(l, x, y)
				spoil(part)
				if !slices.Equal(rest, wantedRest) {
					t.Fatal(l, x, y, rest)
				}
			}
		}
	}
}

// P13.1: a call hangs on its arguments alone: asked again, behind others, it answers the same.
func TestAskedAgain(t *testing.T) {
	l := []int{5, 9, 2, 7}
	for range 3 {
		first, _ := Join(l, 9, []int{1, 3, 4}, 4)
		spoil(first)
		for _, other := range wrong() {
			Right(other)
			Plain(other)
			Join(l, 5, other, 1)
		}
		if again, ok := Join(l, 9, []int{1, 3, 4}, 4); !ok || !slices.Equal(again, []int{2, 7, 5, 9, 4, 1, 3}) {
			t.Error(again, ok)
		}
		if rest, part, ok := Cut(l, 9, 7); !ok || !slices.Equal(rest, []int{5, 9}) || !slices.Equal(part, []int{2, 7}) {
			t.Error(rest, part, ok)
		}
	}
}
