package crew

import (
	"archipelago/api"
	"archipelago/task"
	"math"
	"slices"
	"testing"
)

// alike is a crew of memory of its own.
func alike(c api.Crew) api.Crew {
	c.Work.Tasks = append([]api.Task{}, c.Work.Tasks...)
	c.Work.Done = append([]bool{}, c.Work.Done...)
	var deques [][]int
	for _, l := range c.Deques {
		deques = append(deques, append([]int{}, l...))
	}
	c.Deques = deques
	return c
}

// equal: is two times the same crew there? Told without a call of the package.
func equal(a, b api.Crew) bool {
	return a.Over == b.Over && a.Steps == b.Steps && a.Idle == b.Idle && a.Work.Grain == b.Work.Grain &&
		slices.Equal(a.Work.Tasks, b.Work.Tasks) && slices.Equal(a.Work.Done, b.Work.Done) && slices.EqualFunc(a.Deques, b.Deques, slices.Equal)
}

// marks are n units, of which these are Done.
func marks(n int, done ...int) []bool {
	l := make([]bool, n)
	for _, unit := range done {
		l[unit] = true
	}
	return l
}

// upTo are the numbers from 0 to below n.
func upTo(n int) []int {
	var l []int
	for i := range n {
		l = append(l, i)
	}
	return l
}

// small is work of ten units by three: a task of each kind that deques may hold, and may not.
func small() api.Work {
	return api.Work{Grain: 3, Done: marks(10, 4, 8), Tasks: []api.Task{
		{High: 10, Up: -1, Wait: 2}, // 0: parted
		{High: 5},                   // 1: great
		{High: 3},                   // 2: to be done
		{Low: 8, High: 9},           // 3: done
		{Low: 5, High: 8, Wait: 1},  // 4: it waits
		{Low: 4, High: 10},          // 5: great, its first unit Done
		{Low: 3, High: 6},           // 6: to be done, another unit than the first one Done
		{Low: 9, High: 10, Up: 1},   // 7: to be done
		{Low: 1, High: 9, Wait: 1},  // 8: great, and it waits
	}}
}

// rightOnes are crews that may be, up to the edges.
func rightOnes() []api.Crew {
	one := api.Work{Tasks: []api.Task{{High: 1, Up: -1}}, Grain: 1, Done: marks(1)}
	many := api.Work{Tasks: slices.Repeat([]api.Task{{High: 9, Up: -1}}, 1998), Grain: 8, Done: marks(9)}
	return []api.Crew{
		{Work: one, Deques: [][]int{nil}},
		{Work: one, Deques: [][]int{{0}}},
		{Work: one, Deques: [][]int{{}, {0}}},
		{Work: one, Deques: [][]int{7: {0}}},
		{Work: one, Deques: [][]int{{0}, nil}, Over: true},
		{Work: one, Deques: [][]int{{0}, nil}, Steps: 1, Idle: 2},
		{Work: one, Deques: [][]int{{0}, nil}, Steps: 99999, Idle: 100000},
		{Work: small(), Deques: [][]int{{1, 2, 5}, {7, 6}, nil}},
		{Work: small(), Deques: [][]int{{7}, {6, 5}, nil, {2}, {}, nil, {1}, nil}, Steps: 4, Over: true},
		{Work: many, Deques: [][]int{upTo(1998)}},
		{Work: many, Deques: [][]int{nil, upTo(1998)[900:], upTo(900)}},
	}
}

// wrongOnes are crews that may not be, each for one thing alone.
func wrongOnes() []api.Crew {
	var l []api.Crew
	change := func(f func(c *api.Crew)) {
		c := api.Crew{Work: small(), Deques: [][]int{{1, 2}, nil, {7}}, Steps: 5, Idle: 1}
		f(&c)
		l = append(l, c)
	}
	for _, deques := range [][][]int{
		nil, {}, make([][]int, 9), {8: {1}}, make([][]int, 2000),
		{{-1}}, {{9}}, {{1, 2, 9}}, {nil, {math.MinInt}}, {{math.MaxInt}}, {{1}, {2}, {10}},
		{{1, 1}}, {{2, 1, 2}}, {{1}, {2}, {1}}, {{5, 6}, {7, 5}},
		{{0}}, {{1, 0}}, {nil, {4}}, {{7}, {4}}, {{8}},
		{{3}}, {{1, 2}, {3}},
	} {
		change(func(c *api.Crew) { c.Deques = deques })
	}
	for _, n := range []int{-1, 100001, math.MinInt, math.MaxInt} {
		change(func(c *api.Crew) { c.Steps = n })
		change(func(c *api.Crew) { c.Idle = n })
	}
	for _, grain := range []int{0, 101, -3} {
		change(func(c *api.Crew) { c.Work.Grain = grain })
	}
	change(func(c *api.Crew) { c.Work.Done = marks(9) })
	change(func(c *api.Crew) { c.Work.Done = nil })
	change(func(c *api.Crew) { c.Work.Tasks = nil })
	change(func(c *api.Crew) { c.Work.Tasks[8].Up = 8 })
	change(func(c *api.Crew) { c.Work.Tasks[8].Wait = 3 })
	return append(l, api.Crew{})
}

// P5.1: Begin, of all that there may be, up to the edges.
func TestBegin(t *testing.T) {
	for _, n := range []int{1, 2, 37, 999, 1000} {
		for _, grain := range []int{1, 2, 99, 100} {
			for workers := 1; workers <= 8; workers++ {
				c, e := Begin(n, grain, workers)
				wanted := api.Crew{Deques: make([][]int, workers)}
				wanted.Work, _ = task.Begin(n, grain)
				wanted.Deques[0] = []int{0}
				if e != api.OK || !equal(c, wanted) || !Right(c) || Held(c) != 1 {
					t.Fatal(n, grain, workers, c, e)
				}
			}
		}
	}
}

// P5.1: Begin, of what no crew has.
func TestBeginWrong(t *testing.T) {
	for _, x := range [][3]int{
		{5, 2, 0}, {5, 2, -1}, {5, 2, 9}, {5, 2, math.MinInt}, {5, 2, math.MaxInt}, {0, 2, 3}, {-1, 2, 3}, {1001, 2, 3}, {5, 0, 3}, {5, 101, 3}, {0, 0, 0}, {math.MinInt, 1, 8}, {1, math.MaxInt, 8},
	} {
		if c, e := Begin(x[0], x[1], x[2]); e != api.ErrArg || !equal(c, api.Crew{}) {
			t.Error(x, c, e)
		}
	}
}

// P5.1: Right, of crews that may be; Step takes them.
func TestRight(t *testing.T) {
	for i, c := range rightOnes() {
		if !Right(c) {
			t.Error(i, "not right")
		}
		if d, ev, e := Step(c, 0, 1); e == api.ErrArg || e == api.OK && (d.Steps != c.Steps+1 || ev.Worker != 0) {
			t.Error(i, ev, e)
		}
	}
}

// P5.1: of a crew that may not be each call answers so, and the crew is as it was.
func TestWrong(t *testing.T) {
	for i, c := range wrongOnes() {
		was := alike(c)
		if Right(c) {
			t.Error(i, "right")
		}
		for _, pick := range [][2]int{{0, 0}, {0, 1}, {1, 0}, {2, 1}, {-1, 9}, {math.MinInt, math.MaxInt}} {
			if d, ev, e := Step(c, pick[0], pick[1]); e != api.ErrArg || ev != (api.Event{}) || !equal(d, was) {
				t.Error(i, pick, "Step", ev, e)
			}
			if d, l, e := Run(c, [][2]int{pick, pick}); e != api.ErrArg || len(l) != 0 || !equal(d, was) {
				t.Error(i, pick, "Run", l, e)
			}
		}
	}
}

// P5.1: Step, of a worker whose deque has a task: its bottom is gone at, whoever the victim is.
func TestStepOwn(t *testing.T) {
	c := api.Crew{Work: small(), Deques: [][]int{{5, 2}, {6, 1}, {7}}, Steps: 7, Idle: 3}
	for v := range 3 {
		d, ev, e := Step(c, 0, v)
		wanted := alike(c)
		wanted.Deques, wanted.Steps, wanted.Work.Done = [][]int{{5}, {6, 1}, {7}}, 8, marks(10, 0, 1, 2, 4, 8)
		wanted.Work.Tasks[0].Wait = 1
		if e != api.OK || ev != (api.Event{Worker: 0, From: 0, Task: 2}) || !equal(d, wanted) {
			t.Error(v, d, ev, e)
		}
		d, ev, e = Step(c, 1, v)
		wanted = alike(c)
		wanted.Deques, wanted.Steps = [][]int{{5, 2}, {6, 10, 9}, {7}}, 8
		wanted.Work.Tasks[1].Wait = 2
		wanted.Work.Tasks = append(wanted.Work.Tasks, api.Task{High: 2, Up: 1}, api.Task{Low: 2, High: 5, Up: 1})
		if e != api.OK || ev != (api.Event{Worker: 1, From: 1, Task: 1, Parted: true}) || !equal(d, wanted) {
			t.Error(v, d, ev, e)
		}
	}
}

// P5.1: Step, of a worker whose deque has none: the victim's top is gone at by the thief, who holds the halves.
func TestStepStolen(t *testing.T) {
	c := api.Crew{Work: small(), Deques: [][]int{{5, 2}, nil, {7, 6, 1}}, Steps: 7, Idle: 3}
	d, ev, e := Step(c, 1, 0)
	wanted := alike(c)
	wanted.Deques, wanted.Steps = [][]int{{2}, {10, 9}, {7, 6, 1}}, 8
	wanted.Work.Tasks[5].Wait = 2
	wanted.Work.Tasks = append(wanted.Work.Tasks, api.Task{Low: 4, High: 7, Up: 5}, api.Task{Low: 7, High: 10, Up: 5})
	if e != api.OK || ev != (api.Event{Worker: 1, From: 0, Task: 5, Parted: true}) || !equal(d, wanted) {
		t.Error(d, ev, e)
	}
	d, ev, e = Step(c, 1, 2)
	wanted = alike(c)
	wanted.Deques, wanted.Steps, wanted.Work.Done = [][]int{{5, 2}, nil, {6, 1}}, 8, marks(10, 4, 8, 9)
	if e != api.OK || ev != (api.Event{Worker: 1, From: 2, Task: 7}) || !equal(d, wanted) {
		t.Error(d, ev, e)
	}
}

// P5.1: Step, of a worker that finds nothing: nobody is its own victim, nor looked at besides.
func TestStepIdle(t *testing.T) {
	c := api.Crew{Work: small(), Deques: [][]int{{5, 2}, nil, {}, {7}}, Steps: 7, Idle: 3}
	for _, pick := range [][2]int{{1, 1}, {1, 2}, {2, 1}, {2, 2}, {5, 9}, {-2, -3}} {
		d, ev, e := Step(c, pick[0], pick[1])
		wanted := alike(c)
		wanted.Steps, wanted.Idle = 8, 4
		worker := (pick[0] + 4) % 4
		if e != api.OK || ev != (api.Event{Worker: worker, From: -1, Task: -1}) || !equal(d, wanted) {
			t.Error(pick, d, ev, e)
		}
	}
}

// P5.1: a worker and a victim are cut to a worker's number, upwards from 0, at whatever numbers.
func TestStepCut(t *testing.T) {
	for workers := 1; workers <= 8; workers++ {
		c := api.Crew{Work: small(), Deques: make([][]int, workers)}
		c.Deques[workers/2] = []int{2, 7}
		numbers := []int{math.MinInt, math.MinInt + 1, math.MaxInt - 1, math.MaxInt}
		for n := -20; n <= 20; n++ {
			numbers = append(numbers, n)
		}
		for _, p := range numbers {
			for _, v := range numbers {
				// Cut ahead of what is added, so that nothing goes beyond an int.
				cutP, cutV := (p%workers+workers)%workers, (v%workers+workers)%workers
				wanted := api.Event{Worker: cutP, From: -1, Task: -1}
				if cutP == workers/2 {
					wanted = api.Event{Worker: cutP, From: cutP, Task: 7}
				} else if cutV == workers/2 {
					wanted = api.Event{Worker: cutP, From: cutV, Task: 2}
				}
				if _, ev, e := Step(c, p, v); e != api.OK || ev != wanted {
					t.Fatal(workers, p, v, ev, e)
				}
			}
		}
	}
}

// P5.1: Step, up to as many steps, and idle ones, as may be counted.
func TestStepFull(t *testing.T) {
	for _, x := range []struct {
		steps, idle, p int
		wanted         api.Errno
	}{
		{99999, 0, 0, api.OK}, {99999, 0, 1, api.OK}, {100000, 0, 0, api.ErrFull}, {100000, 0, 1, api.ErrFull},
		{0, 99999, 0, api.OK}, {0, 99999, 1, api.OK}, {0, 100000, 0, api.OK}, {0, 100000, 1, api.ErrFull}, {100000, 100000, 1, api.ErrFull},
		{100001, 0, 0, api.ErrArg}, {0, 100001, 1, api.ErrArg}, {100000, -1, 0, api.ErrArg}, {-1, 100000, 1, api.ErrArg},
	} {
		c, _ := Begin(9, 2, 2)
		c.Steps, c.Idle = x.steps, x.idle
		was := alike(c)
		d, ev, e := Step(c, x.p, x.p)
		if e != x.wanted {
			t.Error(x, e)
		}
		if e != api.OK && (ev != (api.Event{}) || !equal(d, was)) {
			t.Error(x, ev, d)
		}
		if e == api.OK && (d.Steps != x.steps+1 || d.Idle != x.idle+x.p || !Right(d)) {
			t.Error(x, d.Steps, d.Idle)
		}
	}
}

// P5.1: Step, where layer 4 has no room for halves: its error, and the crew as it was.
func TestStepTasksFull(t *testing.T) {
	for n := 1996; n <= 2000; n++ {
		w := api.Work{Tasks: slices.Repeat([]api.Task{{High: 1, Up: -1}}, n), Grain: 1, Done: marks(5)}
		w.Tasks[n-1] = api.Task{High: 5}
		c := api.Crew{Work: w, Deques: [][]int{{3, n - 1}, nil, {n - 2}}, Steps: 5, Idle: 2}
		stolen := api.Crew{Work: w, Deques: [][]int{{n - 1, 3}, nil, {n - 2}}, Steps: 5, Idle: 2}
		for p, x := range []api.Crew{c, stolen} {
			was := alike(x)
			d, ev, e := Step(x, p, 0)
			if n <= 1998 && (e != api.OK || ev != (api.Event{Worker: p, From: 0, Task: n - 1, Parted: true}) || len(d.Work.Tasks) != n+2) {
				t.Error(n, p, ev, e)
			}
			if n > 1998 && (e != api.ErrFull || ev != (api.Event{}) || !equal(d, was)) {
				t.Error(n, p, ev, e)
			}
			if _, _, e := Step(x, 2, 0); e != api.OK {
				t.Error(n, p, e)
			}
		}
	}
}

// P5.1: a deque has room for all tasks, so for more than a layer's deque.
func TestStepRoom(t *testing.T) {
	for _, n := range []int{998, 999, 1000, 1001, 1500, 1998} {
		w := api.Work{Tasks: slices.Repeat([]api.Task{{High: 4, Up: -1}}, n), Grain: 3, Done: marks(4)}
		c := api.Crew{Work: w, Deques: [][]int{upTo(n), nil}}
		d, ev, e := Step(c, 0, 1)
		if e != api.OK || ev != (api.Event{Task: n - 1, Parted: true}) || !slices.Equal(d.Deques[0], append(upTo(n-1), n+1, n)) || Held(d) != n+1 {
			t.Error(n, ev, e)
		}
		d, ev, e = Step(c, 1, 0)
		if e != api.OK || ev != (api.Event{Worker: 1, Parted: true}) || !slices.Equal(d.Deques[0], upTo(n)[1:]) || !slices.Equal(d.Deques[1], []int{n + 1, n}) {
			t.Error(n, ev, e)
		}
	}
}

// P5.1: Over is whether the work has ended: that it has stays, whatever is gone at behind it.
func TestOver(t *testing.T) {
	w := api.Work{Grain: 1, Done: marks(4), Tasks: []api.Task{{High: 1, Up: -1}, {Low: 1, High: 2}, {Low: 2, High: 4, Up: -1}, {Low: 3, High: 4, Up: 2}}}
	for _, x := range []struct {
		held   []int
		wanted []bool
	}{
		{[]int{1, 0}, []bool{true, true, true}},
		{[]int{0, 1}, []bool{false, true, true}},
		{[]int{0, 2}, []bool{false, false, true, true}},
		{[]int{1, 2, 0}, []bool{true, true, true}},
		{[]int{3, 1}, []bool{false, false, false}},
	} {
		c := api.Crew{Work: w, Deques: [][]int{x.held}}
		for i, over := range x.wanted {
			d, _, e := Step(c, 0, 0)
			if e != api.OK || d.Over != over {
				t.Error(x, i, d.Over, e)
			}
			c = d
		}
	}
}

// P5.1: a crew that comes of a step may be one that may not be: the next step answers so, in Run too.
func TestStepLeavesWrong(t *testing.T) {
	w := api.Work{Grain: 2, Done: marks(4, 0), Tasks: []api.Task{{High: 4, Up: -1}, {Low: 1, High: 2, Up: -1}, {Low: 1, High: 3, Up: -1}}}
	for i, deques := range [][][]int{{{0}, nil}, {{2, 1}, nil}} {
		c := api.Crew{Work: w, Deques: deques}
		d, ev, e := Step(c, 0, 0)
		if e != api.OK || Right(d) || d.Steps != 1 {
			t.Fatal(i, d, e)
		}
		if _, _, e := Step(d, 1, 1); e != api.ErrArg {
			t.Error(i, e)
		}
		if f, l, e := Run(c, [][2]int{{0, 0}, {1, 1}, {0, 0}}); e != api.ErrArg || !slices.Equal(l, []api.Event{ev}) || !equal(f, d) {
			t.Error(i, f, l, e)
		}
	}
}

// P5.1: Run does what Step does, pick by pick, up to the first error.
func TestRun(t *testing.T) {
	for i, c := range rightOnes() {
		for seed := range uint32(4) {
			picks := picksOf(seed, 40)
			d, l, e := Run(c, picks)
			wanted, events, first := alike(c), []api.Event(nil), api.OK
			for _, pick := range picks {
				next, ev, e := Step(wanted, pick[0], pick[1])
				if e != api.OK {
					first = e
					break
				}
				wanted, events = next, append(events, ev)
			}
			if e != first || !equal(d, wanted) || !slices.Equal(l, events) {
				t.Error(i, seed, e, first, len(l), len(events))
			}
		}
	}
}

// P5.1: Run's first error ends it, the crew as it is then, and the events so far, beside it.
func TestRunError(t *testing.T) {
	c, _ := Begin(4, 1, 2)
	c.Steps = 99998
	d, l, e := Run(c, [][2]int{{0, 0}, {1, 0}, {0, 0}, {1, 1}})
	if e != api.ErrFull || !slices.Equal(l, []api.Event{{Parted: true}, {Worker: 1, Task: 2, Parted: true}}) || d.Steps != 100000 || !slices.EqualFunc(d.Deques, [][]int{{1}, {4, 3}}, slices.Equal) {
		t.Error(d, l, e)
	}
	c.Steps, c.Idle = 0, 99999
	d, l, e = Run(c, [][2]int{{1, 1}, {0, 0}, {1, 0}, {0, 0}})
	if e != api.OK || len(l) != 4 || d.Idle != 100000 || d.Steps != 4 {
		t.Error(d, l, e)
	}
	d, l, e = Run(c, [][2]int{{1, 1}, {1, 1}, {0, 0}})
	if e != api.ErrFull || !slices.Equal(l, []api.Event{{Worker: 1, From: -1, Task: -1}}) || d.Idle != 100000 || d.Steps != 1 {
		t.Error(d, l, e)
	}
}

// P5.1: Run, of no picks: no step, so no error, of whatever crew.
func TestRunNone(t *testing.T) {
	for i, c := range slices.Concat(rightOnes(), wrongOnes()) {
		was := alike(c)
		if d, l, e := Run(c, nil); e != api.OK || len(l) != 0 || !equal(d, was) {
			t.Error(i, l, e)
		}
	}
}

// P5.1: Run, up to as many steps as may be counted.
func TestRunLong(t *testing.T) {
	c, _ := Begin(1000, 1, 8)
	picks := make([][2]int, 100001)
	for i := range picks {
		picks[i] = [2]int{i, i / 8}
	}
	d, l, e := Run(c, picks)
	if e != api.ErrFull || len(l) != 100000 || d.Steps != 100000 || d.Idle != 100000-1999 || !d.Over || !Right(d) {
		t.Error(e, len(l), d.Steps, d.Idle, d.Over)
	}
}

// P5.1: Held, of crews that may be or not.
func TestHeld(t *testing.T) {
	for _, x := range []struct {
		deques [][]int
		wanted int
	}{
		{nil, 0}, {[][]int{nil}, 0}, {[][]int{{}, nil, {}}, 0}, {[][]int{{4}}, 1}, {[][]int{{4, 5}, nil, {7}}, 3}, {[][]int{{-1, -1}, {-1}}, 3}, {[][]int{upTo(1500), upTo(500)}, 2000}, {[][]int{9: {1}}, 1},
	} {
		if n := Held(api.Crew{Work: small(), Deques: x.deques}); n != x.wanted {
			t.Error(x.deques, n)
		}
	}
}

// P5.1: Same, of crews that differ in one thing alone, may they be or not; a list that holds nothing may be nil or empty.
func TestSame(t *testing.T) {
	crews := []api.Crew{{}, {Over: true}, {Steps: 1}, {Idle: 1}, {Deques: [][]int{nil}}}
	change := func(f func(c *api.Crew)) {
		c := api.Crew{Work: small(), Deques: [][]int{{1, 2}, nil, {7}}, Steps: 5, Idle: 1}
		f(&c)
		crews = append(crews, c)
	}
	for _, f := range []func(c *api.Crew){
		func(c *api.Crew) {}, func(c *api.Crew) { c.Over = true }, func(c *api.Crew) { c.Steps++ }, func(c *api.Crew) { c.Idle-- },
		func(c *api.Crew) { c.Work.Grain++ }, func(c *api.Crew) { c.Work.Done[9] = true }, func(c *api.Crew) { c.Work.Done = c.Work.Done[:9] },
		func(c *api.Crew) { c.Work.Tasks[8].Wait = 0 }, func(c *api.Crew) { c.Work.Tasks[2].Up = -1 }, func(c *api.Crew) { c.Work.Tasks[2].Low++ },
		func(c *api.Crew) { c.Work.Tasks[2].High++ }, func(c *api.Crew) { c.Work.Tasks = c.Work.Tasks[:8] },
		func(c *api.Crew) { c.Deques[0] = []int{2, 1} }, func(c *api.Crew) { c.Deques[0] = []int{1} }, func(c *api.Crew) { c.Deques[2] = nil },
		func(c *api.Crew) { c.Deques[1], c.Deques[2] = c.Deques[2], c.Deques[1] }, func(c *api.Crew) { c.Deques = append(c.Deques, nil) },
	} {
		change(f)
	}
	for i, a := range crews {
		for k, b := range crews {
			if Same(a, alike(b)) != (i == k) {
				t.Error(i, k)
			}
		}
	}
	a := api.Crew{Deques: [][]int{nil, {}}}
	b := api.Crew{Work: api.Work{Tasks: []api.Task{}, Done: []bool{}}, Deques: [][]int{{}, nil}}
	if !Same(a, b) || !Same(b, a) || !Same(api.Crew{}, api.Crew{Deques: [][]int{}}) {
		t.Error("nil and empty")
	}
}

// picksOf are n picks without a rule, some beyond a worker's number.
func picksOf(seed uint32, n int) [][2]int {
	x := seed*2654435761 + 17
	var l [][2]int
	for range n {
		x = x*1664525 + 1013904223
		l = append(l, [2]int{int(x>>8)%40 - 20, int(x>>16) % 11})
	}
	return l
}

// roomy is a crew with spare room in its lists, that is told apart if something is written there.
func roomy(c api.Crew) api.Crew {
	r := alike(c)
	r.Work.Tasks = append(r.Work.Tasks, api.Task{Low: -7}, api.Task{Low: -7})[:len(c.Work.Tasks)]
	r.Work.Done = append(r.Work.Done, true, false)[:len(c.Work.Done)]
	for p, l := range r.Deques {
		r.Deques[p] = append(l, -7, -7)[:len(l)]
	}
	r.Deques = append(r.Deques, []int{-7})[:len(c.Deques)]
	return r
}

// kept: is a crew that roomy made as it was, with the room behind its lists?
func kept(c, was api.Crew) bool {
	tasks, done, deques := len(c.Work.Tasks), len(c.Work.Done), len(c.Deques)
	for _, l := range c.Deques {
		if n := len(l); !slices.Equal(l[n:n+2], []int{-7, -7}) {
			return false
		}
	}
	return equal(c, was) && slices.Equal(c.Deques[:deques+1][deques], []int{-7}) &&
		slices.Equal(c.Work.Tasks[tasks:tasks+2], []api.Task{{Low: -7}, {Low: -7}}) && slices.Equal(c.Work.Done[done:done+2], []bool{true, false})
}

// spoil writes over all that a crew has, and over the room behind it.
func spoil(c api.Crew) {
	tasks, done, deques := c.Work.Tasks[:cap(c.Work.Tasks)], c.Work.Done[:cap(c.Work.Done)], c.Deques[:cap(c.Deques)]
	for i := range tasks {
		tasks[i] = api.Task{Low: 77}
	}
	for i := range done {
		done[i] = !done[i]
	}
	for p, l := range deques {
		for i := range l[:cap(l)] {
			l[:cap(l)][i] = 77
		}
		deques[p] = nil
	}
}

// P5.1: what is handed in is not changed, nor its spare room; what is answered shares nothing with it, beside an error neither.
func TestLeavesArguments(t *testing.T) {
	for i, was := range slices.Concat(rightOnes(), wrongOnes()) {
		c := roomy(was)
		for _, pick := range [][2]int{{0, 0}, {0, 1}, {1, 0}, {1, 2}, {2, 1}, {-1, -2}} {
			picks := [][2]int{pick, {1, 0}, {0, 1}, {2, 1}, {9, 9}}[:3]
			a, _, _ := Step(c, pick[0], pick[1])
			b, _, _ := Run(c, picks)
			d, _, _ := Run(c, nil)
			Right(c)
			Held(c)
			Same(c, a)
			spoil(a)
			spoil(b)
			spoil(d)
			if !kept(c, was) || !slices.Equal(picks[:5], [][2]int{pick, {1, 0}, {0, 1}, {2, 1}, {9, 9}}) {
				t.Fatal(i, pick)
			}
		}
	}
}

// P5.1: no two deques of an answer share.
func TestDequesShareNone(t *testing.T) {
	for i, c := range rightOnes() {
		for n := range 12 {
			d, _, _ := Run(c, picksOf(uint32(n), n))
			was := alike(d)
			for p := range d.Deques {
				full := d.Deques[p][:cap(d.Deques[p])]
				for k := range full {
					full[k] = 77
				}
				for q := p + 1; q < len(d.Deques); q++ {
					if !slices.Equal(d.Deques[q], was.Deques[q]) {
						t.Fatal(i, n, p, q)
					}
				}
			}
		}
	}
}

// P5.1: crews that come of one don't come upon each other.
func TestTwoOfOne(t *testing.T) {
	c, _ := Begin(8, 1, 3)
	c, _, _ = Run(c, [][2]int{{0, 0}, {0, 0}, {1, 0}})
	was := alike(c)
	a, _, _ := Step(c, 0, 0)
	b, _, _ := Step(c, 2, 1)
	wasA := alike(a)
	d, _, _ := Run(a, picksOf(3, 9))
	spoil(b)
	spoil(d)
	if !equal(c, was) || !equal(a, wasA) {
		t.Error(c, a)
	}
}

// P5.1: the chapter's example.
func TestExample(t *testing.T) {
	c, _ := Begin(4, 1, 2)
	c, l, e := Run(c, [][2]int{{0, 1}, {1, 0}})
	if e != api.OK || l[1] != (api.Event{Worker: 1, From: 0, Task: 2, Parted: true}) || c.Work.Tasks[2] != (api.Task{Low: 2, High: 4, Wait: 2}) {
		t.Error(c, l, e)
	}
}

// walk is a crew, with what is to be: whom which tasks are with, of each its units alone, and how often each unit was done.
type walk struct {
	crew  api.Crew
	units []api.Span
	held  [][]int
	times []int
	idle  int
	steps int
}

// begin: a walk ahead of all.
func begin(t *testing.T, n, grain, workers int) *walk {
	c, e := Begin(n, grain, workers)
	if e != api.OK {
		t.Fatal(n, grain, workers, e)
	}
	w := &walk{crew: c, units: []api.Span{{To: n}}, held: make([][]int, workers), times: make([]int, n)}
	w.held[0] = []int{0}
	return w
}

// pull: the task that p, or its victim, gives; -1, -1 of none.
func (w *walk) pull(p, v int) (from, i int) {
	if n := len(w.held[p]); n > 0 {
		i = w.held[p][n-1]
		w.held[p] = w.held[p][:n-1]
		return p, i
	}
	if v != p && len(w.held[v]) > 0 {
		i = w.held[v][0]
		w.held[v] = w.held[v][1:]
		return v, i
	}
	return -1, -1
}

// expect: what is to come of a step.
func (w *walk) expect(p, v int) api.Event {
	w.steps++
	from, i := w.pull(p, v)
	if i < 0 {
		w.idle++
		return api.Event{Worker: p, From: -1, Task: -1}
	}
	u := w.units[i]
	if u.To-u.From > w.crew.Work.Grain {
		middle, n := u.From+(u.To-u.From)/2, len(w.units)
		w.units = append(w.units, api.Span{From: u.From, To: middle}, api.Span{From: middle, To: u.To})
		w.held[p] = append(slices.Clone(w.held[p]), n+1, n)
		return api.Event{Worker: p, From: from, Task: i, Parted: true}
	}
	for unit := u.From; unit < u.To; unit++ {
		w.times[unit]++
	}
	return api.Event{Worker: p, From: from, Task: i}
}

// step: one, held against what is to come of it.
func (w *walk) step(t *testing.T, p, v int) {
	was := w.crew
	wanted := w.expect(p, v)
	c, ev, e := Step(was, p, v)
	if e != api.OK || ev != wanted || !Right(c) {
		t.Fatal("Step", p, v, ev, wanted, e)
	}
	if ev.Task < 0 {
		c.Steps--
		c.Idle--
		if !equal(c, was) || !Same(c, was) {
			t.Fatal("an idle step changed", was, c)
		}
		c.Steps++
		c.Idle++
	}
	w.crew = c
	w.check(t)
}

// check: the crew is as it is to be, each unit was done once at most, and the work is over with the last of them, and not ahead of it.
func (w *walk) check(t *testing.T) {
	c := w.crew
	held := 0
	for _, l := range w.held {
		held += len(l)
	}
	if !slices.EqualFunc(c.Deques, w.held, slices.Equal) || Held(c) != held || c.Steps != w.steps || c.Idle != w.idle || len(c.Work.Tasks) != len(w.units) {
		t.Fatal(c, w.held)
	}
	for unit, times := range w.times {
		if times > 1 || c.Work.Done[unit] != (times == 1) {
			t.Fatal("unit", unit, times)
		}
	}
	if over := slices.Min(w.times) == 1; c.Over != over || c.Over != (held == 0) {
		t.Fatal("over", c.Over, over, held)
	}
}

// P5.2: by picks without a rule, of all numbers of workers, to the end and beyond.
func TestNothingIsLost(t *testing.T) {
	x := uint32(9)
	next := func(n int) int {
		x = x*1664525 + 1013904223
		return int(x>>8) % n
	}
	for _, size := range [][2]int{{1, 1}, {2, 1}, {5, 2}, {7, 1}, {33, 2}, {64, 1}, {100, 100}, {101, 100}, {150, 7}} {
		for workers := 1; workers <= 8; workers++ {
			w := begin(t, size[0], size[1], workers)
			for !w.crew.Over {
				w.step(t, next(workers), next(workers))
			}
			tasks, _ := task.Count(size[0], size[1])
			if len(w.crew.Work.Tasks) != tasks || w.crew.Steps-w.crew.Idle != tasks {
				t.Fatal(size, workers, w.crew.Steps, w.crew.Idle)
			}
			for range 5 {
				w.step(t, next(workers), next(workers))
			}
		}
	}
}

// P5.2: whatever the picks, of small works, all of them, up to so many steps.
func TestAllPicks(t *testing.T) {
	for _, x := range []struct{ n, grain, workers, steps int }{{2, 1, 2, 5}, {3, 1, 2, 6}, {4, 1, 2, 6}, {5, 2, 2, 6}, {2, 1, 3, 4}, {4, 1, 3, 4}} {
		ends := 0
		var walkOn func(w *walk, left int)
		walkOn = func(w *walk, left int) {
			if w.crew.Over {
				ends++
			}
			if left == 0 {
				return
			}
			for p := range x.workers {
				for v := range x.workers {
					next := *w
					next.units, next.held, next.times = slices.Clone(w.units), slices.Clone(w.held), slices.Clone(w.times)
					next.step(t, p, v)
					walkOn(&next, left-1)
				}
			}
		}
		walkOn(begin(t, x.n, x.grain, x.workers), x.steps)
		if tasks, _ := task.Count(x.n, x.grain); (ends > 0) != (x.steps >= tasks) {
			t.Error(x, ends)
		}
	}
}

// P5.2: the greatest work, by one unit at once: all workers, and one that does all while the others look at each other.
func TestGreatestWork(t *testing.T) {
	for _, others := range []bool{true, false} {
		w := begin(t, 1000, 1, 8)
		for i := 0; !w.crew.Over; i++ {
			if others {
				w.step(t, i%8, i/3%8)
			} else {
				w.step(t, 0, 1)
				w.step(t, 1+i%7, 1+i/7%7)
			}
		}
		if len(w.crew.Work.Tasks) != 1999 || !others && w.crew.Idle != 1999 {
			t.Error(others, len(w.crew.Work.Tasks), w.crew.Idle)
		}
	}
}
