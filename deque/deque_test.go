package deque

import (
	"archipelago/api"
	"math"
	"slices"
	"testing"
)

// upTo are the numbers from 0 to below n.
func upTo(n int) []int {
	var l []int
	for i := range n {
		l = append(l, i)
	}
	return l
}

// roomy is a list with spare room behind it, that is told apart if something is written there.
func roomy(l ...int) []int {
	room := append(slices.Clone(l), -7, -7, -7)
	return room[:len(l)]
}

// kept: is a list that roomy made as it was, with the room behind it?
func kept(l []int, was ...int) bool {
	return slices.Equal(l[:len(l)+3], append(slices.Clone(was), -7, -7, -7))
}

// spoil writes over all that a list has, and over the room behind it.
func spoil(l []int) {
	l = l[:cap(l)]
	for i := range l {
		l[i] = 77
	}
}

// P3.1: Push, onto lists of all lengths at which it takes one.
func TestPush(t *testing.T) {
	for n := range 1000 {
		l := upTo(n)
		m, e := Push(l, -5)
		if e != api.OK || !slices.Equal(m, append(upTo(n), -5)) || !slices.Equal(l, upTo(n)) {
			t.Fatal(n, e, m)
		}
	}
	for _, n := range []int{0, 1, -1, math.MinInt, math.MaxInt} {
		if m, e := Push([]int{}, n); e != api.OK || !slices.Equal(m, []int{n}) {
			t.Error(n, m, e)
		}
		if m, e := Push([]int{4, n, 4}, n); e != api.OK || !slices.Equal(m, []int{4, n, 4, n}) {
			t.Error(n, m, e)
		}
	}
}

// P3.1: Push, onto a list without room: it is as it was.
func TestPushFull(t *testing.T) {
	for _, n := range []int{1000, 1001, 1002, 2000, 3000} {
		if m, e := Push(upTo(n), 5); e != api.ErrFull || !slices.Equal(m, upTo(n)) {
			t.Error(n, e, len(m))
		}
	}
}

// P3.1: a deque takes a thousand, one after the other, and has room again when one went, of whichever end.
func TestPushUpToFull(t *testing.T) {
	var l []int
	for i := range 1000 {
		m, e := Push(l, i)
		if e != api.OK {
			t.Fatal(i, e)
		}
		l = m
	}
	if m, e := Push(l, 1000); e != api.ErrFull || !slices.Equal(m, upTo(1000)) {
		t.Fatal(e, len(m))
	}
	p, _, _ := Pop(l)
	if m, e := Push(p, 5); e != api.OK || !slices.Equal(m, append(upTo(999), 5)) {
		t.Error(e, len(m))
	}
	s, _, _ := Steal(l)
	if m, e := Push(s, 1000); e != api.OK || !slices.Equal(m, upTo(1001)[1:]) {
		t.Error(e, len(m))
	}
}

// P3.1: Pop, Steal and Look, of lists of one number and more, longer ones than a deque grows too.
func TestEnds(t *testing.T) {
	for _, n := range []int{1, 2, 3, 10, 999, 1000, 1001, 3000} {
		l := upTo(n)
		if m, x, e := Pop(l); e != api.OK || x != n-1 || !slices.Equal(m, upTo(n-1)) {
			t.Error("Pop", n, x, e, len(m))
		}
		if m, x, e := Steal(l); e != api.OK || x != 0 || !slices.Equal(m, upTo(n)[1:]) {
			t.Error("Steal", n, x, e, len(m))
		}
		if bottom, top, ok := Look(l); bottom != n-1 || top != 0 || !ok {
			t.Error("Look", n, bottom, top, ok)
		}
		if !slices.Equal(l, upTo(n)) {
			t.Error(n, "changed")
		}
	}
	for _, x := range []int{0, -1, math.MinInt, math.MaxInt} {
		l := []int{x, 3, 3, -x}
		_, bottom, _ := Pop(l)
		_, top, _ := Steal(l)
		b, a, ok := Look(l)
		if bottom != -x || top != x || b != -x || a != x || !ok {
			t.Error(x, bottom, top, b, a, ok)
		}
	}
}

// P3.1: Pop, Steal and Look, of a list that holds nothing, whatever lies behind it.
func TestEndsEmpty(t *testing.T) {
	for i, l := range [][]int{nil, {}, roomy(), upTo(2)[:0], upTo(2)[2:]} {
		if m, x, e := Pop(l); e != api.ErrEmpty || x != 0 || len(m) != 0 {
			t.Error(i, "Pop", m, x, e)
		}
		if m, x, e := Steal(l); e != api.ErrEmpty || x != 0 || len(m) != 0 {
			t.Error(i, "Steal", m, x, e)
		}
		if bottom, top, ok := Look(l); bottom != 0 || top != 0 || ok {
			t.Error(i, "Look", bottom, top, ok)
		}
	}
}

// P3.1: Move, by tables.
func TestMove(t *testing.T) {
	for _, x := range []struct {
		from, to         []int
		most             int
		wantFrom, wantTo []int
	}{
		{[]int{1, 2, 3}, []int{8, 9}, 1, []int{2, 3}, []int{8, 9, 1}},
		{[]int{1, 2, 3}, []int{8, 9}, 2, []int{3}, []int{8, 9, 1, 2}},
		{[]int{1, 2, 3}, []int{8, 9}, 3, nil, []int{8, 9, 1, 2, 3}},
		{[]int{1, 2, 3}, []int{8, 9}, 4, nil, []int{8, 9, 1, 2, 3}},
		{[]int{1, 2, 3}, []int{8, 9}, math.MaxInt, nil, []int{8, 9, 1, 2, 3}},
		{[]int{1, 2, 3}, []int{8, 9}, 0, []int{1, 2, 3}, []int{8, 9}},
		{[]int{1, 2, 3}, []int{8, 9}, -1, []int{1, 2, 3}, []int{8, 9}},
		{[]int{1, 2, 3}, []int{8, 9}, math.MinInt, []int{1, 2, 3}, []int{8, 9}},
		{[]int{1, 2}, nil, 1, []int{2}, []int{1}},
		{nil, []int{5}, 3, nil, []int{5}},
		{nil, nil, 3, nil, nil},
		{[]int{}, []int{}, -3, nil, nil},
		{[]int{7, 7, math.MinInt}, []int{math.MaxInt}, 9, nil, []int{math.MaxInt, 7, 7, math.MinInt}},
	} {
		from, to := Move(x.from, x.to, x.most)
		if !slices.Equal(from, x.wantFrom) || !slices.Equal(to, x.wantTo) {
			t.Errorf("Move(%v, %v, %d): %v, %v", x.from, x.to, x.most, from, to)
		}
	}
}

// P3.1: Move does what Steal and Push do, one after the other, at all lengths at which one of the three ends it.
func TestMoveOneByOne(t *testing.T) {
	for _, n := range []int{0, 1, 2, 5, 1000, 1001, 3000} {
		for _, k := range []int{0, 1, 3, 995, 998, 999, 1000, 1001, 3000} {
			for _, most := range []int{-2, 0, 1, 2, 3, 4, 5, 6, 999, 1000, 1001, 3000} {
				from, to := upTo(n), make([]int, k)
				for range most {
					rest, x, e := Steal(from)
					more, f := Push(to, x)
					if e != api.OK || f != api.OK {
						break
					}
					from, to = rest, more
				}
				a, b := Move(upTo(n), make([]int, k), most)
				if !slices.Equal(a, from) || !slices.Equal(b, to) {
					t.Fatal(n, k, most, len(a), len(b))
				}
			}
		}
	}
}

// P3.1: Move, as long as there is room, and not at all to a list that is longer than a deque grows.
func TestMoveFull(t *testing.T) {
	for _, x := range []struct{ n, k, most, want int }{
		{3, 998, 3, 2}, {3, 999, 3, 1}, {3, 1000, 3, 0}, {3, 1001, 3, 0}, {3, 3000, 3, 0},
		{3, 997, 3, 3}, {3, 998, 1, 1}, {3000, 0, 3000, 1000}, {3000, 1, 999, 999}, {3000, 400, math.MaxInt, 600},
		{1, 1200, math.MaxInt, 0}, {0, 1200, 1, 0},
	} {
		from, to := Move(upTo(x.n), make([]int, x.k), x.most)
		if !slices.Equal(from, upTo(x.n)[x.want:]) || !slices.Equal(to, append(make([]int, x.k), upTo(x.want)...)) {
			t.Error(x, len(from), len(to))
		}
	}
}

// P3.1: a list may be moved to itself, or to a part of its own.
func TestMoveToItself(t *testing.T) {
	l := roomy(1, 2, 3, 4)
	for _, x := range []struct {
		from, to, wantFrom, wantTo []int
	}{
		{l, l, []int{3, 4}, []int{1, 2, 3, 4, 1, 2}},
		{l, l[:1], []int{3, 4}, []int{1, 1, 2}},
		{l, l[2:], []int{3, 4}, []int{3, 4, 1, 2}},
		{l[2:], l[:2], nil, []int{1, 2, 3, 4}},
	} {
		if from, to := Move(x.from, x.to, 2); !slices.Equal(from, x.wantFrom) || !slices.Equal(to, x.wantTo) {
			t.Error(x, from, to)
		}
		if !kept(l, 1, 2, 3, 4) {
			t.Error(l)
		}
	}
}

// P3.1: what is handed in is not changed, nor its spare room; what is answered shares nothing with it, where there is an error neither.
func TestLeavesArguments(t *testing.T) {
	for _, n := range []int{0, 1, 2, 3, 999, 1000, 1001} {
		l, other := roomy(upTo(n)...), roomy(4, 5)
		p, _ := Push(l, 9)
		q, _, _ := Pop(l)
		r, _, _ := Steal(l)
		Look(l)
		spoil(p)
		spoil(q)
		spoil(r)
		for _, most := range []int{-1, 0, 1, 5000} {
			a, b := Move(l, other, most)
			c, d := Move(other, l, most)
			spoil(a)
			spoil(b)
			spoil(c)
			spoil(d)
		}
		if !kept(l, upTo(n)...) || !kept(other, 4, 5) {
			t.Error(n, len(l), other)
		}
	}
}

// P3.1: no list of an answer shares with the other one.
func TestMoveShares(t *testing.T) {
	for most := range 5 {
		l := []int{1, 2, 3}
		a, b := Move(l, l, most)
		wanted := slices.Clone(b)
		spoil(a)
		if !slices.Equal(b, wanted) {
			t.Error(most, b)
		}
	}
}

// P3.1: a deque without its bottom has no room behind it, so that two that are appended to it don't come upon each other.
func TestPopHasNoRoom(t *testing.T) {
	for n := 1; n < 40; n++ {
		rest, _, _ := Pop(roomy(upTo(n)...))
		if cap(rest) != len(rest) {
			t.Error(n, len(rest), cap(rest))
		}
		p, q := append(rest, 7), append(rest, 8)
		if !slices.Equal(p, append(upTo(n-1), 7)) || !slices.Equal(q, append(upTo(n-1), 8)) {
			t.Error(n, p, q)
		}
	}
}

// P3.1: two deques that come of one don't come upon each other.
func TestTwoOfOne(t *testing.T) {
	l, _ := Push([]int{1, 2}, 3)
	less, _, _ := Pop(l)
	p, _ := Push(less, 7)
	q, _ := Push(less, 8)
	r, _, _ := Steal(l)
	s, _ := Push(r, 9)
	a, b := Move(l, less, 1)
	for i, x := range [][2][]int{
		{l, {1, 2, 3}}, {less, {1, 2}}, {p, {1, 2, 7}}, {q, {1, 2, 8}}, {r, {2, 3}}, {s, {2, 3, 9}}, {a, {2, 3}}, {b, {1, 2, 1}},
	} {
		if !slices.Equal(x[0], x[1]) {
			t.Error(i, x)
		}
	}
}

// P3.1: the chapter's example.
func TestExample(t *testing.T) {
	l := []int{1, 2, 3}
	_, bottom, e := Pop(l)
	_, top, f := Steal(l)
	if bottom != 3 || top != 1 || e != api.OK || f != api.OK {
		t.Error(bottom, top, e, f)
	}
}

// P3.2: what was pushed is popped last in first out, and stolen first in first out.
func TestOrders(t *testing.T) {
	for _, n := range []int{1, 2, 7, 300, 1000} {
		var l []int
		for i := range n {
			l, _ = Push(l, i*i)
		}
		byPop, byTheft := l, l
		for i := range n {
			var bottom, top int
			var e, f api.Errno
			byPop, bottom, e = Pop(byPop)
			byTheft, top, f = Steal(byTheft)
			if e != api.OK || f != api.OK || bottom != (n-1-i)*(n-1-i) || top != i*i {
				t.Fatal(n, i, bottom, top, e, f)
			}
		}
		if len(byPop) != 0 || len(byTheft) != 0 {
			t.Error(n, byPop, byTheft)
		}
	}
}

// walk is two deques, what each must hold, and what went out of them; each number that comes is one that never came.
type walk struct {
	deques, wanted [2][]int
	came           int
	out            []int
}

// push: a new number.
func (w *walk) push(t *testing.T, i int) {
	l, e := Push(w.deques[i], w.came)
	if full := len(w.wanted[i]) == 1000; full != (e == api.ErrFull) || !full && e != api.OK {
		t.Fatal("Push", len(w.wanted[i]), e)
	}
	w.deques[i] = l
	if e == api.OK {
		w.wanted[i] = append(w.wanted[i], w.came)
		w.came++
	}
}

// pull: one from the bottom, or from the top.
func (w *walk) pull(t *testing.T, i int, bottom bool) {
	call, at := Steal, 0
	if bottom {
		call, at = Pop, len(w.wanted[i])-1
	}
	l, x, e := call(w.deques[i])
	w.deques[i] = l
	if len(w.wanted[i]) == 0 {
		if e != api.ErrEmpty || x != 0 {
			t.Fatal("none", x, e)
		}
		return
	}
	if e != api.OK || x != w.wanted[i][at] {
		t.Fatal(bottom, x, e)
	}
	w.wanted[i] = slices.Delete(w.wanted[i], at, at+1)
	w.out = append(w.out, x)
}

// move: one by one in what is wanted, at once by the call.
func (w *walk) move(i, most int) {
	w.deques[i], w.deques[1-i] = Move(w.deques[i], w.deques[1-i], most)
	for most > 0 && len(w.wanted[i]) > 0 && len(w.wanted[1-i]) < 1000 {
		w.wanted[1-i] = append(w.wanted[1-i], w.wanted[i][0])
		w.wanted[i] = w.wanted[i][1:]
		most--
	}
}

// check: both hold what they must, and each number that came is held, or went out, once.
func (w *walk) check(t *testing.T) {
	if !slices.Equal(w.deques[0], w.wanted[0]) || !slices.Equal(w.deques[1], w.wanted[1]) {
		t.Fatal(w.deques, w.wanted)
	}
	for i, l := range w.deques {
		bottom, top, ok := Look(l)
		if n := len(l); ok != (n > 0) || ok && (bottom != w.wanted[i][n-1] || top != w.wanted[i][0]) {
			t.Fatal("Look", bottom, top, ok)
		}
	}
	all := slices.Concat(w.deques[0], w.deques[1], w.out)
	slices.Sort(all)
	if !slices.Equal(all, upTo(w.came)) {
		t.Fatal("lost", len(all), w.came)
	}
}

// P3.2: along walks of many pushes, pops, thefts and moves nothing is lost, and nothing is there twice; empty and full deques are met on the way.
func TestEachOnce(t *testing.T) {
	x := uint32(11)
	for _, start := range []int{0, 3, 990} {
		w := &walk{}
		for range start {
			w.push(t, 0)
			w.push(t, 1)
		}
		for range 600 {
			x = x*1664525 + 1013904223
			k := int(x >> 8)
			switch i := k % 2; k / 2 % 8 {
			case 0, 1, 2, 3:
				w.push(t, i)
			case 4, 5:
				w.pull(t, i, true)
			case 6:
				w.pull(t, i, false)
			case 7:
				w.move(i, k/16%9-2)
			}
			w.check(t)
		}
	}
}
