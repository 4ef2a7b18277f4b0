package pool

import (
	"archipelago/api"
	"math"
	"slices"
	"testing"
)

// same: have two pools the same cells?
func same(p, q api.Pool) bool {
	return slices.Equal(p.Gens, q.Gens) && slices.Equal(p.Free, q.Free)
}

// roomy is a list with spare room behind it, that is told apart if something is written there.
func roomy(l ...int) []int {
	room := append(slices.Clone(l), -7, -7, -7)
	return room[:len(l)]
}

// spare: is the room behind a list as roomy made it?
func spare(l []int) bool {
	return slices.Equal(l[len(l):len(l)+3], []int{-7, -7, -7})
}

// upTo are the numbers from 0 to below n.
func upTo(n int) []int {
	var l []int
	for i := range n {
		l = append(l, i)
	}
	return l
}

// wrong are pools that may not be.
func wrong() []api.Pool {
	return []api.Pool{
		{},
		{Gens: []int{}, Free: []int{}},
		{Free: []int{0}},
		{Gens: make([]int, 1001)},
		{Gens: make([]int, 1001), Free: []int{1000}},
		{Gens: make([]int, 5000), Free: upTo(5000)},
		{Gens: []int{-1}},
		{Gens: []int{-1}, Free: []int{0}},
		{Gens: []int{0, 0, math.MinInt}, Free: []int{0}},
		{Gens: []int{1<<30 + 1}},
		{Gens: []int{0, 1<<30 + 1}, Free: []int{1, 0}},
		{Gens: []int{math.MaxInt, 0}, Free: []int{1}},
		{Gens: []int{0}, Free: []int{1}},
		{Gens: []int{0}, Free: []int{-1}},
		{Gens: []int{0, 0}, Free: []int{0, 2}},
		{Gens: []int{0, 0}, Free: []int{math.MinInt, 0}},
		{Gens: []int{0, 0}, Free: []int{0, math.MaxInt}},
		{Gens: []int{0, 0}, Free: []int{1, 1}},
		{Gens: []int{0, 0, 0}, Free: []int{2, 0, 2}},
		{Gens: []int{0, 0}, Free: []int{0, 1, 0}},
	}
}

// P2.1: Make, at all numbers of cells that may be: all free, 0 to be taken first.
func TestMake(t *testing.T) {
	for n := 1; n <= 1000; n++ {
		p, e := Make(n)
		falling := upTo(n)
		slices.Reverse(falling)
		if e != api.OK || !slices.Equal(p.Gens, make([]int, n)) || !slices.Equal(p.Free, falling) {
			t.Fatal(n, p, e)
		}
		if !Right(p) || len(Taken(p)) != 0 {
			t.Fatal(n, p)
		}
	}
}

// P2.1: Make, of a number that no pool has.
func TestMakeWrong(t *testing.T) {
	for _, n := range []int{0, -1, -1000, 1001, 1002, 1 << 20, math.MinInt, math.MaxInt} {
		if p, e := Make(n); e != api.ErrArg || p.Gens != nil || p.Free != nil {
			t.Error(n, e, len(p.Gens), len(p.Free))
		}
	}
}

// P2.1: all cells of a pool are taken in their order, then none is free; each pool that was had stays as it was.
func TestTakeAll(t *testing.T) {
	for _, n := range []int{1, 2, 3, 10, 1000} {
		p, _ := Make(n)
		for i := range n {
			was := copied(p)
			q, h, e := Take(p)
			if e != api.OK || h != (api.Handle{Cell: i, Gen: 1}) || q.Gens[i] != 1 || len(q.Free) != n-1-i {
				t.Fatal(n, i, h, e)
			}
			if !same(p, was) || Good(p, h) || !Good(q, h) {
				t.Fatal(n, i)
			}
			p = q
		}
		if !slices.Equal(Taken(p), upTo(n)) {
			t.Fatal(n, Taken(p))
		}
		if q, h, e := Take(p); e != api.ErrFull || h != (api.Handle{}) || !same(p, q) {
			t.Fatal(n, h, e)
		}
	}
}

// P2.1: the last free one is taken, of whatever place and generation.
func TestTake(t *testing.T) {
	for _, x := range []struct {
		p, want api.Pool
		h       api.Handle
	}{
		{api.Pool{Gens: []int{0}, Free: []int{0}}, api.Pool{Gens: []int{1}}, api.Handle{Cell: 0, Gen: 1}},
		{api.Pool{Gens: []int{4, 5, 6}, Free: []int{0, 2, 1}}, api.Pool{Gens: []int{4, 6, 6}, Free: []int{0, 2}}, api.Handle{Cell: 1, Gen: 6}},
		{api.Pool{Gens: []int{4, 5, 6}, Free: []int{1, 2}}, api.Pool{Gens: []int{4, 5, 7}, Free: []int{1}}, api.Handle{Cell: 2, Gen: 7}},
		{api.Pool{Gens: []int{1<<30 - 1, 9}, Free: []int{0}}, api.Pool{Gens: []int{1 << 30, 9}}, api.Handle{Cell: 0, Gen: 1 << 30}},
		{api.Pool{Gens: []int{1 << 30, 9}, Free: []int{0, 1}}, api.Pool{Gens: []int{1 << 30, 10}, Free: []int{0}}, api.Handle{Cell: 1, Gen: 10}},
	} {
		q, h, e := Take(x.p)
		if e != api.OK || h != x.h || !same(q, x.want) {
			t.Errorf("Take(%v): %v, %v, %v", x.p, q, h, e)
		}
	}
}

// P2.1: a cell of the greatest generation is taken no more, though others are free.
func TestTakeOldest(t *testing.T) {
	for _, p := range []api.Pool{
		{Gens: []int{1 << 30}, Free: []int{0}},
		{Gens: []int{3, 1 << 30}, Free: []int{0, 1}},
		{Gens: []int{1 << 30, 0, 0}, Free: []int{2, 1, 0}},
	} {
		q, h, e := Take(p)
		if !Right(p) || e != api.ErrFull || h != (api.Handle{}) || !same(p, q) {
			t.Errorf("Take(%v): %v, %v, %v", p, q, h, e)
		}
	}
}

// P2.1: a cell whose generation came to the greatest one is good, is given back, and then taken no more.
func TestLastGeneration(t *testing.T) {
	p := api.Pool{Gens: []int{1<<30 - 1}, Free: []int{0}}
	q, h, _ := Take(p)
	if h.Gen != 1<<30 || !Right(q) || !Good(q, h) {
		t.Fatal(q, h)
	}
	r, e := Give(q, h)
	if e != api.OK || !Right(r) || !slices.Equal(r.Free, []int{0}) || Good(r, h) {
		t.Fatal(r, e)
	}
	if s, _, e := Take(r); e != api.ErrFull || !same(r, s) {
		t.Error(s, e)
	}
}

// P2.1: what is given back is the last one that is free; its generation stays.
func TestGive(t *testing.T) {
	p := api.Pool{Gens: []int{4, 0, 6, 1 << 30}, Free: []int{2}}
	for _, x := range []struct {
		h    api.Handle
		want []int
	}{
		{api.Handle{Cell: 0, Gen: 4}, []int{2, 0}},
		{api.Handle{Cell: 1, Gen: 0}, []int{2, 1}},
		{api.Handle{Cell: 3, Gen: 1 << 30}, []int{2, 3}},
	} {
		q, e := Give(p, x.h)
		if e != api.OK || !slices.Equal(q.Free, x.want) || !slices.Equal(q.Gens, p.Gens) {
			t.Errorf("Give(%v, %v): %v, %v", p, x.h, q, e)
		}
	}
}

// P2.1: Good and Give, of handles that are good and of those that aren't.
func TestGood(t *testing.T) {
	p := api.Pool{Gens: []int{4, 0, 6, 1 << 30}, Free: []int{2}}
	for _, x := range []struct {
		cell, gen int
		want      bool
	}{
		{0, 4, true}, {1, 0, true}, {3, 1 << 30, true},
		{0, 3, false}, {0, 5, false}, {0, -4, false}, {1, 1, false}, {1, -1, false}, {3, 1<<30 - 1, false}, {3, 1<<30 + 1, false},
		{2, 6, false}, {2, 5, false}, {2, 7, false}, {2, 0, false},
		{4, 0, false}, {4, 4, false}, {-1, 0, false}, {-1, 4, false},
		{math.MinInt, 0, false}, {math.MaxInt, 0, false}, {0, math.MinInt, false}, {0, math.MaxInt, false},
	} {
		h := api.Handle{Cell: x.cell, Gen: x.gen}
		if Good(p, h) != x.want {
			t.Errorf("Good(%v, %v): %v", p, h, !x.want)
		}
		q, e := Give(p, h)
		if (e == api.OK) != x.want || !x.want && (e != api.ErrStale || !same(p, q)) {
			t.Errorf("Give(%v, %v): %v, %v", p, h, q, e)
		}
	}
}

// P2.1: Taken, rising, in whatever order the others are free.
func TestTaken(t *testing.T) {
	for _, x := range []struct {
		n          int
		free, want []int
	}{
		{1, nil, []int{0}}, {1, []int{0}, nil},
		{5, []int{3, 1}, []int{0, 2, 4}}, {5, []int{0, 4, 2}, []int{1, 3}}, {5, []int{4, 3, 2, 1, 0}, nil},
		{3, []int{}, []int{0, 1, 2}}, {1000, nil, upTo(1000)}, {1000, []int{999}, upTo(999)},
	} {
		p := api.Pool{Gens: make([]int, x.n), Free: x.free}
		if l := Taken(p); !slices.Equal(l, x.want) {
			t.Errorf("%d cells, free %v: taken %v", x.n, x.free, l)
		}
	}
}

// P2.1: Right, of pools that may be, up to the edges.
func TestRight(t *testing.T) {
	for _, p := range []api.Pool{
		{Gens: []int{0}},
		{Gens: []int{0}, Free: []int{}},
		{Gens: []int{0}, Free: []int{0}},
		{Gens: []int{1 << 30}, Free: []int{0}},
		{Gens: []int{1 << 30, 0, 1}, Free: []int{1, 2, 0}},
		{Gens: make([]int, 1000), Free: upTo(1000)},
		{Gens: make([]int, 1000), Free: []int{999, 0}},
		{Gens: make([]int, 1000)},
	} {
		if !Right(p) {
			t.Errorf("not right: %v", p)
		}
	}
}

// P2.1: of a pool that may not be each call answers so, and the pool is as it was.
func TestWrong(t *testing.T) {
	for i, p := range wrong() {
		if Right(p) || len(Taken(p)) != 0 {
			t.Error(i, "right", Taken(p))
		}
		if q, h, e := Take(p); e != api.ErrArg || h != (api.Handle{}) || !same(p, q) {
			t.Error(i, "Take", q, h, e)
		}
		for _, h := range []api.Handle{{}, {Cell: 0, Gen: -1}, {Cell: 1}, {Cell: -1}, {Cell: 1000}, {Cell: math.MaxInt, Gen: math.MinInt}} {
			if Good(p, h) {
				t.Error(i, "good", h)
			}
			if q, e := Give(p, h); e != api.ErrArg || !same(p, q) {
				t.Error(i, "Give", q, h, e)
			}
		}
	}
}

// P2.1: what is handed in is not changed, nor its spare room; what is answered shares nothing with it, beside an error neither.
func TestLeavesArguments(t *testing.T) {
	for _, x := range []struct {
		gens, free []int
	}{
		{[]int{3, 1, 2}, []int{0, 2}},
		{[]int{3, 1}, []int{}},
		{[]int{3, 1 << 30}, []int{0, 1}},
		{[]int{3, -1}, []int{0}},
	} {
		p := api.Pool{Gens: roomy(x.gens...), Free: roomy(x.free...)}
		a, _, _ := Take(p)
		b, _ := Give(p, api.Handle{Cell: 1, Gen: 1})
		Right(p)
		Good(p, api.Handle{Cell: 1, Gen: 1})
		Taken(p)
		for _, q := range []api.Pool{a, b} {
			for i := range q.Gens {
				q.Gens[i] = 77
			}
			for i := range q.Free {
				q.Free[i] = 77
			}
		}
		if !same(p, api.Pool{Gens: x.gens, Free: x.free}) || !spare(p.Gens) || !spare(p.Free) {
			t.Errorf("%v became %v", x, p)
		}
	}
}

// P2.1: two pools that come of one don't come upon each other.
func TestTwoOfOne(t *testing.T) {
	p, _ := Make(4)
	p, g, _ := Take(p)
	p, h, _ := Take(p)
	a, _ := Give(p, g)
	b, _ := Give(p, h)
	c, _, _ := Take(p)
	if !slices.Equal(a.Free, []int{3, 2, 0}) || !slices.Equal(b.Free, []int{3, 2, 1}) || !slices.Equal(c.Free, []int{3}) {
		t.Error(a, b, c)
	}
	if !slices.Equal(p.Free, []int{3, 2}) || !slices.Equal(p.Gens, []int{1, 1, 0, 0}) {
		t.Error(p)
	}
}

// P2.1: the chapter's example.
func TestExample(t *testing.T) {
	p, _ := Make(2)
	p, first, _ := Take(p)
	p, second, _ := Take(p)
	p, e := Give(p, first)
	p, third, _ := Take(p)
	if e != api.OK || first != (api.Handle{Cell: 0, Gen: 1}) || second != (api.Handle{Cell: 1, Gen: 1}) || third != (api.Handle{Cell: 0, Gen: 2}) {
		t.Error(first, second, third, e)
	}
	if !slices.Equal(Taken(p), []int{0, 1}) {
		t.Error(Taken(p))
	}
}

// walk is a pool with what was done to it: the handles that were had and not given back, and those that were given back.
type walk struct {
	pool       api.Pool
	held, gone []api.Handle
}

// take: a cell, unless none is free.
func (w *walk) take(t *testing.T) {
	q, h, e := Take(w.pool)
	if full := len(w.held) == len(w.pool.Gens); full != (e == api.ErrFull) || !full && e != api.OK {
		t.Fatal("Take", e, w.held)
	}
	if e == api.OK {
		w.held = append(w.held, h)
	}
	w.pool = q
}

// give: the i-th of those that are held.
func (w *walk) give(t *testing.T, i int) {
	h := w.held[i]
	q, e := Give(w.pool, h)
	if e != api.OK || q.Free[len(q.Free)-1] != h.Cell {
		t.Fatal("Give", h, e)
	}
	w.held, w.gone, w.pool = slices.Delete(w.held, i, i+1), append(w.gone, h), q
}

// check: those that are held are good, of a cell each, and no other ones are.
func (w *walk) check(t *testing.T) {
	var cells []int
	for _, h := range w.held {
		if !Good(w.pool, h) {
			t.Fatal("not good", h)
		}
		cells = append(cells, h.Cell)
	}
	slices.Sort(cells)
	if !Right(w.pool) || !slices.Equal(Taken(w.pool), cells) || len(slices.Compact(cells)) != len(w.held) {
		t.Fatal(w.pool, cells)
	}
	for _, h := range w.gone {
		if _, e := Give(w.pool, h); Good(w.pool, h) || e != api.ErrStale {
			t.Fatal("good again", h, e)
		}
	}
}

// P2.2: along walks of many takes and gives, what was given back is good never again, and what is held is of cells of its own.
func TestAlone(t *testing.T) {
	x := uint32(7)
	for _, n := range []int{1, 2, 3, 8, 40} {
		p, _ := Make(n)
		w := &walk{pool: p}
		for range 400 {
			x = x*1664525 + 1013904223
			if k := int(x >> 8); k%5 < 3 || len(w.held) == 0 {
				w.take(t)
			} else {
				w.give(t, k%len(w.held))
			}
			w.check(t)
		}
	}
}

// P2.2: of all handles to a pool's cells as many are good as cells are taken.
func TestAloneOfAll(t *testing.T) {
	p := api.Pool{Gens: []int{2, 0, 3, 1, 3}, Free: []int{4, 1}}
	met := map[int]int{}
	for cell := -2; cell < 8; cell++ {
		for gen := -2; gen < 8; gen++ {
			if Good(p, api.Handle{Cell: cell, Gen: gen}) {
				met[cell]++
			}
		}
	}
	if len(met) != 3 || met[0] != 1 || met[2] != 1 || met[3] != 1 {
		t.Error(met)
	}
}
