package task

import (
	"archipelago/api"
	"math"
	"slices"
	"testing"
)

// same: is two times the same work there?
func same(v, w api.Work) bool {
	return v.Grain == w.Grain && slices.Equal(v.Tasks, w.Tasks) && slices.Equal(v.Done, w.Done)
}

// alike is work of memory of its own.
func alike(w api.Work) api.Work {
	return api.Work{Tasks: append([]api.Task{}, w.Tasks...), Grain: w.Grain, Done: append([]bool{}, w.Done...)}
}

// marks are n units, of which these are Done.
func marks(n int, done ...int) []bool {
	l := make([]bool, n)
	for _, unit := range done {
		l[unit] = true
	}
	return l
}

// times is a list of n tasks, all the same one.
func times(n int, t api.Task) []api.Task {
	return slices.Repeat([]api.Task{t}, n)
}

// rightOnes are works that may be, up to the edges.
func rightOnes() []api.Work {
	one := api.Task{High: 1, Up: -1}
	return []api.Work{
		{Tasks: times(1, one), Grain: 1, Done: marks(1)},
		{Tasks: times(1, one), Grain: 100, Done: marks(1, 0)},
		{Tasks: times(1, one), Grain: 1, Done: marks(1000)},
		{Tasks: times(1, api.Task{High: 1000, Up: -1}), Grain: 1, Done: marks(1000)},
		{Tasks: times(1, api.Task{Low: 999, High: 1000, Up: -1}), Grain: 100, Done: marks(1000, 3, 999)},
		{Tasks: times(2000, one), Grain: 7, Done: marks(2)},
		{Tasks: times(1, api.Task{High: 5, Up: -1, Wait: 1}), Grain: 7, Done: marks(5)},
		{Tasks: times(1, api.Task{High: 5, Up: -1, Wait: 2}), Grain: 7, Done: marks(5)},
		{Tasks: []api.Task{one, one, {Low: 1, High: 3}}, Grain: 7, Done: marks(5)},
		{Tasks: []api.Task{one, one, {Low: 4, High: 5, Up: 1, Wait: 2}}, Grain: 7, Done: marks(5)},
		{Tasks: []api.Task{one, {High: 5}, {High: 5, Up: 1}, {Low: 2, High: 3, Up: -1}}, Grain: 2, Done: marks(5, 1, 2)},
		{Tasks: append(times(1999, one), api.Task{High: 1, Up: 1998}), Grain: 1, Done: marks(1)},
	}
}

// wrongOnes are works that may not be, each for one thing alone.
func wrongOnes() []api.Work {
	var l []api.Work
	change := func(f func(w *api.Work)) {
		w := api.Work{Tasks: []api.Task{{High: 5, Up: -1, Wait: 1}, {High: 2}, {Low: 2, High: 5}}, Grain: 2, Done: marks(5, 0)}
		f(&w)
		l = append(l, w)
	}
	for _, grain := range []int{0, -1, 101, math.MinInt, math.MaxInt} {
		change(func(w *api.Work) { w.Grain = grain })
	}
	for _, done := range [][]bool{nil, {}, marks(4), marks(1001), marks(5000)} {
		change(func(w *api.Work) { w.Done = done })
	}
	for _, tasks := range [][]api.Task{nil, {}, times(2001, api.Task{High: 1, Up: -1}), times(5000, api.Task{High: 1, Up: -1})} {
		change(func(w *api.Work) { w.Tasks = tasks })
	}
	for _, x := range []struct {
		at int
		t  api.Task
	}{
		{0, api.Task{Low: -1, High: 5, Up: -1}}, {0, api.Task{Low: math.MinInt, High: 5, Up: -1}},
		{0, api.Task{Low: 5, High: 5, Up: -1}}, {0, api.Task{Low: 4, High: 3, Up: -1}}, {0, api.Task{Up: -1}},
		{0, api.Task{Low: math.MaxInt, High: math.MinInt, Up: -1}}, {0, api.Task{High: -1, Up: -1}}, {0, api.Task{Low: -3, High: -1, Up: -1}},
		{0, api.Task{High: 6, Up: -1}}, {0, api.Task{Low: 5, High: 6, Up: -1}}, {0, api.Task{High: math.MaxInt, Up: -1}},
		{0, api.Task{High: 5}}, {0, api.Task{High: 5, Up: 1}}, {0, api.Task{High: 5, Up: -2}},
		{1, api.Task{High: 2, Up: 1}}, {1, api.Task{High: 2, Up: 2}}, {1, api.Task{High: 2, Up: 3}},
		{1, api.Task{High: 2, Up: math.MaxInt}}, {1, api.Task{High: 2, Up: math.MinInt}},
		{2, api.Task{High: 2, Up: 2}}, {2, api.Task{High: 2, Up: -2}}, {2, api.Task{Low: 2, High: 6}}, {2, api.Task{Low: 2, High: 2}},
		{0, api.Task{High: 5, Up: -1, Wait: -1}}, {0, api.Task{High: 5, Up: -1, Wait: 3}}, {2, api.Task{High: 5, Wait: math.MinInt}}, {1, api.Task{High: 5, Wait: math.MaxInt}},
	} {
		change(func(w *api.Work) { w.Tasks[x.at] = x.t })
	}
	return append(l, api.Work{})
}

// P4.1: Begin, at all numbers of units, and grains up to the edges.
func TestBegin(t *testing.T) {
	for n := 1; n <= 1000; n++ {
		for _, grain := range []int{1, 2, 99, 100} {
			w, e := Begin(n, grain)
			wanted := api.Work{Tasks: []api.Task{{Low: 0, High: n, Up: -1, Wait: 0}}, Grain: grain, Done: make([]bool, n)}
			if e != api.OK || !same(w, wanted) || !Right(w) {
				t.Fatal(n, grain, w, e)
			}
		}
	}
}

// P4.1: Begin and Count, of what no work has.
func TestBeginWrong(t *testing.T) {
	for _, x := range [][2]int{
		{0, 1}, {-1, 1}, {1001, 1}, {1001, 100}, {math.MinInt, 5}, {math.MaxInt, 5}, {1, 0}, {1, -1}, {1000, 101}, {5, math.MinInt}, {5, math.MaxInt}, {0, 0}, {-1, 101}, {1001, 0},
	} {
		if w, e := Begin(x[0], x[1]); e != api.ErrArg || !same(w, api.Work{}) {
			t.Error("Begin", x, w, e)
		}
		if tasks, leaves := Count(x[0], x[1]); tasks != 0 || leaves != 0 {
			t.Error("Count", x, tasks, leaves)
		}
	}
}

// P4.1: Right, of works that may be; each call takes them.
func TestRight(t *testing.T) {
	for i, w := range rightOnes() {
		if !Right(w) {
			t.Error(i, "not right")
		}
		for _, k := range []int{0, len(w.Tasks) - 1} {
			if _, _, _, e := Part(w, k); e == api.ErrArg || e == api.ErrNone {
				t.Error(i, k, "Part", e)
			}
			if _, _, e := Do(w, k); e == api.ErrArg || e == api.ErrNone {
				t.Error(i, k, "Do", e)
			}
		}
	}
}

// P4.1: of work that may not be each call answers so, ahead of all else, and the work is as it was.
func TestWrong(t *testing.T) {
	for i, w := range wrongOnes() {
		was := alike(w)
		if Right(w) {
			t.Error(i, "right")
		}
		for _, k := range []int{0, 1, 2, 3, -1, 2000, math.MinInt, math.MaxInt} {
			if Great(w, k) {
				t.Error(i, k, "great")
			}
			if v, a, b, e := Part(w, k); e != api.ErrArg || a != 0 || b != 0 || !same(v, was) {
				t.Error(i, k, "Part", a, b, e)
			}
			if v, over, e := Do(w, k); e != api.ErrArg || over || !same(v, was) {
				t.Error(i, k, "Do", over, e)
			}
		}
	}
}

// P4.1: of a task that there isn't.
func TestNone(t *testing.T) {
	for i, w := range rightOnes() {
		was := alike(w)
		for _, k := range []int{-1, len(w.Tasks), len(w.Tasks) + 1, math.MinInt, math.MaxInt} {
			if Great(w, k) {
				t.Error(i, k, "great")
			}
			if v, a, b, e := Part(w, k); e != api.ErrNone || a != 0 || b != 0 || !same(v, was) {
				t.Error(i, k, "Part", a, b, e)
			}
			if v, over, e := Do(w, k); e != api.ErrNone || over || !same(v, was) {
				t.Error(i, k, "Do", over, e)
			}
		}
	}
}

// P4.1: Great, about the grain, whatever a task waits for, and whether it is Done.
func TestGreat(t *testing.T) {
	for _, grain := range []int{1, 2, 3, 50, 100} {
		for n := 1; n <= 1000-7; n++ {
			for wait := range 3 {
				w := api.Work{Tasks: []api.Task{{High: 1, Up: -1}, {Low: 7, High: 7 + n, Wait: wait}}, Grain: grain, Done: marks(1000, 7)}
				if Great(w, 1) != (n > grain) || Great(w, 0) {
					t.Fatal(grain, n, wait)
				}
			}
		}
	}
}

// P4.1: Part, of a task of each size, wherever it lies: its halves, and the task itself, that waits for them.
func TestPart(t *testing.T) {
	for n := 2; n < 60; n++ {
		for low := range 5 {
			first, second := api.Task{High: 64, Up: -1, Wait: 1}, api.Task{Low: low, High: low + n}
			w := api.Work{Tasks: []api.Task{first, second, first}, Grain: 1, Done: marks(64, 0, 9)}
			v, a, b, e := Part(w, 1)
			middle := low + n/2
			waits := second
			waits.Wait = 2
			wanted := api.Work{Grain: 1, Done: marks(64, 0, 9), Tasks: []api.Task{
				first, waits, first, {Low: low, High: middle, Up: 1}, {Low: middle, High: low + n, Up: 1},
			}}
			if e != api.OK || a != 3 || b != 4 || !same(v, wanted) || !Right(v) {
				t.Fatal(n, low, v, a, b, e)
			}
		}
	}
}

// P4.1: Part, of a task that isn't to be parted.
func TestPartThere(t *testing.T) {
	w := api.Work{Grain: 3, Done: marks(10), Tasks: []api.Task{
		{High: 10, Up: -1, Wait: 2}, {High: 10, Wait: 1}, {High: 3}, {Low: 9, High: 10}, {Low: 4, High: 7, Wait: 2}, {Low: 4, High: 7, Wait: 1}, {Low: 4, High: 8},
	}}
	was := alike(w)
	for i := range 6 {
		if v, a, b, e := Part(w, i); e != api.ErrThere || a != 0 || b != 0 || !same(v, was) {
			t.Error(i, v, a, b, e)
		}
	}
	if _, a, b, e := Part(w, 6); e != api.OK || a != 7 || b != 8 {
		t.Error(a, b, e)
	}
}

// P4.1: Part, up to as many tasks as there may be; what isn't to be parted is told ahead of that.
func TestPartFull(t *testing.T) {
	for n := 1990; n <= 2000; n++ {
		tasks := append(times(n-2, api.Task{High: 1, Up: -1}), api.Task{High: 8}, api.Task{High: 8, Wait: 1})
		w := api.Work{Tasks: tasks, Grain: 7, Done: marks(8)}
		was := alike(w)
		v, a, b, e := Part(w, n-2)
		if n <= 1998 && (e != api.OK || a != n || b != n+1 || len(v.Tasks) != n+2 || !Right(v)) {
			t.Error(n, a, b, e)
		}
		if n > 1998 && (e != api.ErrFull || a != 0 || b != 0 || !same(v, was)) {
			t.Error(n, a, b, e)
		}
		for _, i := range []int{0, n - 1} {
			if _, _, _, e := Part(w, i); e != api.ErrThere {
				t.Error(n, i, e)
			}
		}
		if _, _, _, e := Part(w, n); e != api.ErrNone {
			t.Error(n, e)
		}
	}
}

// P4.1: Part takes a great task that waits for none, though its parts were done: the chapter says no more.
func TestPartAgain(t *testing.T) {
	w := api.Work{Grain: 2, Done: marks(4, 0, 1, 2, 3), Tasks: []api.Task{{High: 4, Up: -1}, {High: 2}, {Low: 2, High: 4}}}
	v, a, b, e := Part(w, 0)
	if e != api.OK || a != 3 || b != 4 || v.Tasks[0].Wait != 2 || v.Tasks[3] != w.Tasks[1] || v.Tasks[4] != w.Tasks[2] {
		t.Error(v, a, b, e)
	}
}

// P4.1: Do, of one task without an Up: its units, and no other ones, are Done, and the work ends.
func TestDo(t *testing.T) {
	for low := range 6 {
		for high := low + 1; high <= 6; high++ {
			one := api.Task{Low: low, High: high, Up: -1}
			w := api.Work{Tasks: []api.Task{{High: 6, Up: -1, Wait: 2}, one}, Grain: 6, Done: marks(6)}
			done := marks(6)
			for unit := low; unit < high; unit++ {
				done[unit] = true
			}
			v, over, e := Do(w, 1)
			if e != api.OK || !over || !same(v, api.Work{Tasks: w.Tasks, Grain: 6, Done: done}) {
				t.Error(low, high, v, over, e)
			}
		}
	}
}

// P4.1: Do, of a task of whose units some are Done, but not the first one; and of one as great as the grain.
func TestDoSome(t *testing.T) {
	w := api.Work{Tasks: []api.Task{{Low: 1, High: 4, Up: -1}}, Grain: 3, Done: marks(5, 0, 2, 3)}
	if v, over, e := Do(w, 0); e != api.OK || !over || !slices.Equal(v.Done, marks(5, 0, 1, 2, 3)) {
		t.Error(v, over, e)
	}
}

// P4.1: Do, of a task that isn't to be done.
func TestDoThere(t *testing.T) {
	w := api.Work{Grain: 3, Done: marks(10, 8), Tasks: []api.Task{
		{High: 4, Up: -1}, {High: 10, Up: -1}, {High: 4, Wait: 2}, {High: 3, Wait: 1}, {High: 3, Wait: 2}, {Low: 8, High: 9}, {Low: 8, High: 10}, {Low: 7, High: 10},
	}}
	was := alike(w)
	for i := range 7 {
		if v, over, e := Do(w, i); e != api.ErrThere || over || !same(v, was) {
			t.Error(i, v, over, e)
		}
	}
	if v, over, e := Do(w, 7); e != api.OK || over || !slices.Equal(v.Done, marks(10, 7, 8, 9)) {
		t.Error(v, over, e)
	}
}

// P4.1: Do, along a chain of tasks: how far upwards it is told, by what each of them waits for.
func TestDoUpwards(t *testing.T) {
	for _, x := range []struct {
		waits, wanted []int
		over          bool
	}{
		{[]int{0}, []int{0}, false},
		{[]int{1}, []int{0}, true},
		{[]int{2}, []int{1}, false},
		{[]int{1, 1}, []int{0, 0}, true},
		{[]int{2, 1}, []int{1, 0}, false},
		{[]int{0, 1}, []int{0, 0}, false},
		{[]int{1, 2}, []int{1, 1}, false},
		{[]int{1, 0}, []int{1, 0}, false},
		{[]int{1, 1, 1}, []int{0, 0, 0}, true},
		{[]int{2, 1, 1}, []int{1, 0, 0}, false},
		{[]int{1, 2, 1}, []int{1, 1, 0}, false},
		{[]int{1, 1, 2}, []int{1, 1, 1}, false},
		{[]int{1, 0, 1}, []int{1, 0, 0}, false},
		{[]int{2, 2, 0}, []int{2, 2, 0}, false},
	} {
		var chain, wanted []api.Task
		for i, wait := range x.waits {
			chain = append(chain, api.Task{High: 9, Up: i - 1, Wait: wait})
			wanted = append(wanted, api.Task{High: 9, Up: i - 1, Wait: x.wanted[i]})
		}
		last := api.Task{Low: 3, High: 4, Up: len(chain) - 1}
		w := api.Work{Tasks: append(chain, last), Grain: 1, Done: marks(9, 8)}
		v, over, e := Do(w, len(chain))
		if e != api.OK || over != x.over || !same(v, api.Work{Tasks: append(wanted, last), Grain: 1, Done: marks(9, 3, 8)}) {
			t.Error(x, v, over, e)
		}
	}
}

// P4.1: Do, along the longest chain that there may be.
func TestDoLongChain(t *testing.T) {
	var chain []api.Task
	for i := range 1999 {
		chain = append(chain, api.Task{High: 2, Up: i - 1, Wait: 1})
	}
	w := api.Work{Tasks: append(chain, api.Task{High: 1, Up: 1998}), Grain: 1, Done: marks(2)}
	v, over, e := Do(w, 1999)
	if e != api.OK || !over || !Right(v) {
		t.Error(over, e)
	}
	for i, one := range v.Tasks {
		if one.Wait != 0 {
			t.Fatal(i, one)
		}
	}
}

// P4.1: Do tells it upwards along Up alone, whichever tasks lie between.
func TestDoUpOnly(t *testing.T) {
	w := api.Work{Grain: 2, Done: marks(8), Tasks: []api.Task{
		{High: 8, Up: -1, Wait: 1}, {High: 8, Up: -1, Wait: 1}, {High: 4, Up: 0, Wait: 1}, {High: 4, Up: 1, Wait: 1}, {High: 2, Up: 2}, {High: 2, Up: 3},
	}}
	v, over, e := Do(w, 4)
	if e != api.OK || !over || v.Tasks[0].Wait != 0 || v.Tasks[2].Wait != 0 || v.Tasks[1].Wait != 1 || v.Tasks[3].Wait != 1 {
		t.Error(v, over, e)
	}
}

// P4.1: Count, by tables.
func TestCount(t *testing.T) {
	for _, x := range []struct{ n, grain, tasks, leaves int }{
		{1, 1, 1, 1}, {1, 100, 1, 1}, {2, 1, 3, 2}, {2, 2, 1, 1}, {3, 1, 5, 3}, {3, 2, 3, 2}, {5, 2, 5, 3}, {6, 2, 7, 4}, {7, 3, 5, 3},
		{100, 100, 1, 1}, {101, 100, 3, 2}, {200, 100, 3, 2}, {201, 100, 5, 3}, {1000, 1, 1999, 1000}, {999, 1, 1997, 999}, {1000, 2, 1023, 512}, {1000, 100, 31, 16},
	} {
		if tasks, leaves := Count(x.n, x.grain); tasks != x.tasks || leaves != x.leaves {
			t.Errorf("Count(%d, %d): %d, %d", x.n, x.grain, tasks, leaves)
		}
	}
}

// P4.1: Count, at all numbers of units and grains, held against parts that are parted till none is great.
func TestCountOfAll(t *testing.T) {
	for n := 1; n <= 1000; n += 1 + n/40 {
		for grain := 1; grain <= 100; grain++ {
			open := []int{n}
			tasks, leaves := 0, 0
			for len(open) > 0 {
				units := open[0]
				open = open[1:]
				tasks++
				if units <= grain {
					leaves++
					continue
				}
				open = append(open, (units+1)/2, units-(units+1)/2)
			}
			if a, b := Count(n, grain); a != tasks || b != leaves {
				t.Fatalf("Count(%d, %d): %d, %d, not %d, %d", n, grain, a, b, tasks, leaves)
			}
		}
	}
}

// roomy is work with spare room in its lists, that is told apart if something is written there.
func roomy(w api.Work) api.Work {
	tasks := append(slices.Clone(w.Tasks), api.Task{Low: -7}, api.Task{Low: -7}, api.Task{Low: -7})
	done := append(slices.Clone(w.Done), true, false, true)
	return api.Work{Tasks: tasks[:len(w.Tasks)], Grain: w.Grain, Done: done[:len(w.Done)]}
}

// kept: is work that roomy made as it was, with the room behind it?
func kept(w, was api.Work) bool {
	tasks, done := len(w.Tasks), len(w.Done)
	return same(w, was) && slices.Equal(w.Tasks[tasks:tasks+3], times(3, api.Task{Low: -7})) && slices.Equal(w.Done[done:done+3], []bool{true, false, true})
}

// spoil writes over all that work has, and over the room behind it.
func spoil(w api.Work) {
	tasks, done := w.Tasks[:cap(w.Tasks)], w.Done[:cap(w.Done)]
	for i := range tasks {
		tasks[i] = api.Task{Low: 77}
	}
	for i := range done {
		done[i] = !done[i]
	}
}

// P4.1: what is handed in is not changed, nor its spare room; what is answered shares nothing with it, beside an error neither.
func TestLeavesArguments(t *testing.T) {
	for i, was := range slices.Concat(rightOnes(), wrongOnes()) {
		w := roomy(was)
		for _, k := range []int{-1, 0, 1, 2, len(was.Tasks) - 1, len(was.Tasks)} {
			a, _, _, _ := Part(w, k)
			b, _, _ := Do(w, k)
			Right(w)
			Great(w, k)
			spoil(a)
			spoil(b)
			if !kept(w, was) {
				t.Fatal(i, k)
			}
		}
	}
}

// P4.1: works that come of one don't come upon each other.
func TestTwoOfOne(t *testing.T) {
	w, _ := Begin(8, 2)
	w, a, b, _ := Part(w, 0)
	p, _, _, _ := Part(w, a)
	q, _, _, _ := Part(w, b)
	if len(w.Tasks) != 3 || w.Tasks[a].Wait != 0 || w.Tasks[b].Wait != 0 {
		t.Error(w)
	}
	if p.Tasks[3] != (api.Task{High: 2, Up: 1}) || q.Tasks[3] != (api.Task{Low: 4, High: 6, Up: 2}) || p.Tasks[b].Wait != 0 || q.Tasks[a].Wait != 0 {
		t.Error(p, q)
	}
	x, _, _ := Do(p, 3)
	y, _, _ := Do(p, 4)
	if !slices.Equal(p.Done, marks(8)) || !slices.Equal(x.Done, marks(8, 0, 1)) || !slices.Equal(y.Done, marks(8, 2, 3)) || p.Tasks[a].Wait != 2 || x.Tasks[a].Wait != 1 {
		t.Error(p, x, y)
	}
}

// P4.1: the chapter's example.
func TestExample(t *testing.T) {
	w, _ := Begin(5, 2)
	w, a, b, e := Part(w, 0)
	if e != api.OK || w.Tasks[a] != (api.Task{High: 2}) || w.Tasks[b] != (api.Task{Low: 2, High: 5}) || Great(w, a) || !Great(w, b) {
		t.Fatal(w, e)
	}
	w, c, d, e := Part(w, b)
	if e != api.OK || w.Tasks[c] != (api.Task{Low: 2, High: 3, Up: b}) || w.Tasks[d] != (api.Task{Low: 3, High: 5, Up: b}) || len(w.Tasks) != 5 {
		t.Error(w, e)
	}
}

// walk is work with what was done to it: the tasks that are still to be gone at, and how often each unit was done.
type walk struct {
	work  api.Work
	open  []int
	times []int
	ends  int
}

// begin: a walk ahead of all.
func begin(t *testing.T, n, grain int) *walk {
	w, e := Begin(n, grain)
	if e != api.OK {
		t.Fatal(n, grain, e)
	}
	return &walk{work: w, open: []int{0}, times: make([]int, n)}
}

// part: the task i in two, that both are to be gone at.
func (w *walk) part(t *testing.T, i int) {
	n := len(w.work.Tasks)
	v, a, b, e := Part(w.work, i)
	if e != api.OK || a != n || b != n+1 || len(v.Tasks) != n+2 {
		t.Fatal("Part", i, a, b, e)
	}
	whole, left, right := v.Tasks[i], v.Tasks[a], v.Tasks[b]
	if whole.Wait != 2 || left.Up != i || right.Up != i || left.Low != whole.Low || right.High != whole.High || left.High != right.Low {
		t.Fatal("halves", whole, left, right)
	}
	if less := (right.High - right.Low) - (left.High - left.Low); less < 0 || less > 1 {
		t.Fatal("not half", left, right)
	}
	w.work, w.open = v, append(w.open, a, b)
}

// do: the task i; it ends the work if none is to be gone at any more.
func (w *walk) do(t *testing.T, i int) {
	v, over, e := Do(w.work, i)
	if e != api.OK || over != (len(w.open) == 0) {
		t.Fatal("Do", i, over, e, w.open)
	}
	if over {
		w.ends++
	}
	for unit := range v.Done {
		if v.Done[unit] != w.work.Done[unit] {
			w.times[unit]++
		}
	}
	w.work = v
}

// step: at one of those that are to be gone at.
func (w *walk) step(t *testing.T, k int) {
	i := w.open[k]
	w.open = slices.Delete(w.open, k, k+1)
	if !Great(w.work, i) {
		w.do(t, i)
	} else {
		w.part(t, i)
	}
	if _, _, _, e := Part(w.work, i); e != api.ErrThere {
		t.Fatal("parted again", i, e)
	}
	if _, _, e := Do(w.work, i); e != api.ErrThere {
		t.Fatal("done again", i, e)
	}
}

// check: of a walk that is over, each unit was done once, there are as many tasks as Count says, and none waits.
func (w *walk) check(t *testing.T, n, grain int) {
	tasks, leaves := Count(n, grain)
	if w.ends != 1 || len(w.work.Tasks) != tasks || !Right(w.work) {
		t.Fatal(n, grain, w.ends, len(w.work.Tasks), tasks)
	}
	if slices.Contains(w.work.Done, false) || slices.Max(w.times) != 1 || slices.Min(w.times) != 1 {
		t.Fatal(n, grain, w.times)
	}
	small := 0
	for i, one := range w.work.Tasks {
		if one.Wait != 0 {
			t.Fatal(n, grain, i, one)
		}
		if !Great(w.work, i) {
			small++
		}
	}
	if small != leaves {
		t.Fatal(n, grain, small, leaves)
	}
}

// P4.2: the last one first, the first one first, and in orders without a rule.
func TestWhateverTheOrder(t *testing.T) {
	x := uint32(5)
	orders := []func(n int) int{
		func(n int) int { return n - 1 },
		func(n int) int { return 0 },
		func(n int) int { return n / 2 },
		func(n int) int {
			x = x*1664525 + 1013904223
			return int(x>>8) % n
		},
	}
	for _, size := range [][2]int{
		{1, 1}, {1, 100}, {2, 1}, {2, 2}, {3, 1}, {3, 2}, {4, 1}, {5, 2}, {7, 1}, {8, 3}, {10, 3}, {33, 1}, {100, 7}, {100, 100}, {101, 100}, {250, 1}, {1000, 9}, {1000, 100},
	} {
		for _, order := range orders {
			w := begin(t, size[0], size[1])
			for len(w.open) > 0 {
				w.step(t, order(len(w.open)))
			}
			w.check(t, size[0], size[1])
		}
	}
}

// P4.2: the greatest work, by one unit at once, has room for all its tasks.
func TestGreatestWork(t *testing.T) {
	for _, k := range []int{0, 1} {
		w := begin(t, 1000, 1)
		for len(w.open) > 0 {
			w.step(t, k*(len(w.open)-1))
		}
		w.check(t, 1000, 1)
	}
}

// P4.2: in each order that there is, of works of few units.
func TestAllOrders(t *testing.T) {
	for _, size := range [][2]int{{1, 1}, {2, 1}, {3, 1}, {4, 1}, {5, 2}, {6, 2}, {7, 3}} {
		ways := 0
		var walkOn func(w *walk)
		walkOn = func(w *walk) {
			if len(w.open) == 0 {
				w.check(t, size[0], size[1])
				ways++
			}
			for k := range w.open {
				next := &walk{work: w.work, open: slices.Clone(w.open), times: slices.Clone(w.times), ends: w.ends}
				next.step(t, k)
				walkOn(next)
			}
		}
		walkOn(begin(t, size[0], size[1]))
		if ways < 1 {
			t.Error(size, ways)
		}
	}
}
