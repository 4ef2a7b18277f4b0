package drain

import (
	"archipelago/api"
	"archipelago/crew"
	"archipelago/task"
	"math"
	"slices"
	"testing"
)

// alike is a crew of memory of its own.
func alike(c api.Crew) api.Crew {
	c.Work.Tasks = append([]api.Task{}, c.Work.Tasks...)
	c.Work.Done = append([]bool{}, c.Work.Done...)
	var deques [][]int
	for _, l := range c.Deques {
		deques = append(deques, append([]int{}, l...))
	}
	c.Deques = deques
	return c
}

// marks are n units, of which these are Done.
func marks(n int, done ...int) []bool {
	l := make([]bool, n)
	for _, unit := range done {
		l[unit] = true
	}
	return l
}

// begun is a crew behind these steps.
func begun(t *testing.T, n, grain, workers int, picks ...[2]int) api.Crew {
	t.Helper()
	c, e := crew.Begin(n, grain, workers)
	if e != api.OK {
		t.Fatal(n, grain, workers, e)
	}
	c, _, e = crew.Run(c, picks)
	if e != api.OK {
		t.Fatal(n, grain, workers, e)
	}
	return c
}

// picksOf are n picks without a rule, some beyond a worker's number.
func picksOf(seed uint32, n int) [][2]int {
	x := seed*2654435761 + 17
	var l [][2]int
	for range n {
		x = x*1664525 + 1013904223
		l = append(l, [2]int{int(x>>8)%40 - 20, int(x>>16) % 11})
	}
	return l
}

// small is work of ten units by three, with tasks of many kinds: those that are finished end it or not.
func small() api.Work {
	return api.Work{Grain: 3, Done: marks(10, 4, 8), Tasks: []api.Task{
		{High: 10, Up: -1, Wait: 2}, // 0: parted
		{High: 7},                   // 1: great; it comes to three
		{High: 3},                   // 2: to be done
		{Low: 8, High: 9},           // 3: done
		{Low: 5, High: 8, Wait: 1},  // 4: it waits
		{Low: 4, High: 10, Up: 4},   // 5: great, its first unit Done; it comes to three
		{Low: 5, High: 7, Up: 3},    // 6: to be done; nothing above is finished by it
		{Low: 9, High: 10, Up: -1},  // 7: to be done; that ends the work
		{High: 10, Up: -1},          // 8: great; it comes to seven
	}}
}

// rightOnes are crews that may be, up to the edges.
func rightOnes(t *testing.T) []api.Crew {
	crowd := api.Work{Tasks: slices.Repeat([]api.Task{{High: 9, Up: -1}}, 1998), Grain: 8, Done: marks(9)}
	filled := api.Work{Tasks: slices.Repeat([]api.Task{{High: 9, Up: -1}}, 1999), Grain: 8, Done: marks(9)}
	l := []api.Crew{
		begun(t, 1, 1, 1), begun(t, 1, 100, 8), begun(t, 2, 1, 1), begun(t, 10, 3, 2), begun(t, 101, 100, 3), begun(t, 37, 1, 8),
		begun(t, 8, 1, 2, [2]int{0, 0}, [2]int{1, 0}, [2]int{1, 0}),
		begun(t, 23, 2, 5, picksOf(4, 12)...),
		begun(t, 12, 1, 3, picksOf(5, 200)...),
		{Work: small(), Deques: [][]int{nil}},
		{Work: small(), Deques: [][]int{nil, {}, nil}, Over: true, Steps: 5},
		{Work: small(), Deques: [][]int{{1, 2}, {7}, nil}, Over: true, Steps: 100000, Idle: 100000},
		{Work: small(), Deques: [][]int{{7}, nil}},
		{Work: small(), Deques: [][]int{nil, {6}}, Steps: 9},
		{Work: small(), Deques: [][]int{{6}, nil, {2, 5}}},
		{Work: small(), Deques: [][]int{{5, 2}, nil, {7, 6, 1}}},
		{Work: small(), Deques: [][]int{{8, 1}, nil}},
		{Work: crowd, Deques: [][]int{{4, 5}}},
		{Work: filled, Deques: [][]int{nil, {4, 5}}},
	}
	for _, x := range [][2]int{{99999, 0}, {100000, 0}, {99997, 0}, {0, 99999}, {0, 100000}, {0, 99990}} {
		c := begun(t, 10, 3, 3)
		c.Steps, c.Idle = x[0], x[1]
		l = append(l, c)
	}
	return l
}

// wrongOnes are crews that may not be, each for one thing alone.
func wrongOnes() []api.Crew {
	var l []api.Crew
	for _, f := range []func(c *api.Crew){
		func(c *api.Crew) { c.Deques = nil }, func(c *api.Crew) { c.Deques = make([][]int, 9) }, func(c *api.Crew) { c.Deques = [][]int{8: {1}} },
		func(c *api.Crew) { c.Deques = [][]int{{9}} }, func(c *api.Crew) { c.Deques = [][]int{{1}, {math.MinInt}} }, func(c *api.Crew) { c.Deques = [][]int{{math.MaxInt}} },
		func(c *api.Crew) { c.Deques = [][]int{{1}, {2, 1}} }, func(c *api.Crew) { c.Deques[1] = []int{0} }, func(c *api.Crew) { c.Deques[1] = []int{3} }, func(c *api.Crew) { c.Deques[1] = []int{4} },
		func(c *api.Crew) { c.Steps = -1 }, func(c *api.Crew) { c.Steps = 100001 }, func(c *api.Crew) { c.Idle = -1 }, func(c *api.Crew) { c.Idle = 100001 },
		func(c *api.Crew) { c.Work.Grain = 0 }, func(c *api.Crew) { c.Work.Grain = 101 }, func(c *api.Crew) { c.Work.Tasks = nil }, func(c *api.Crew) { c.Work.Done = nil },
		func(c *api.Crew) { c.Work.Tasks[8].High = 11 }, func(c *api.Crew) { c.Work.Tasks[8].Up = 8 }, func(c *api.Crew) { c.Work.Tasks[8].Wait = 3 },
	} {
		for _, over := range []bool{false, true} {
			c := api.Crew{Work: small(), Deques: [][]int{{1, 2}, nil, {7}}, Over: over, Steps: 5, Idle: 1}
			f(&c)
			l = append(l, c)
		}
	}
	return append(l, api.Crew{}, api.Crew{Over: true})
}

// stepping goes on as the chapter's words say, by layer 5's Step alone: the crew and the events at the end, or beside the first error.
func stepping(c api.Crew) (api.Crew, []api.Event, api.Errno) {
	if !crew.Right(c) || !c.Over && crew.Held(c) == 0 {
		return c, nil, api.ErrArg
	}
	var l []api.Event
	for i := 0; !c.Over; i++ {
		if crew.Held(c) == 0 {
			return c, l, api.ErrEmpty
		}
		workers := len(c.Deques)
		p, r := i%workers, i/workers
		d, ev, e := crew.Step(c, p, (p+1+r)%workers)
		if e != api.OK {
			return c, l, e
		}
		c, l = d, append(l, ev)
	}
	return c, l, api.OK
}

// P6.1: Drain, step for step: in a later round each worker looks at another victim, and in the third one of three at itself.
func TestDrainRounds(t *testing.T) {
	c, l, e := Drain(begun(t, 4, 1, 3))
	wanted := []api.Event{
		{Worker: 0, From: 0, Task: 0, Parted: true}, {Worker: 1, From: -1, Task: -1}, {Worker: 2, From: 0, Task: 2, Parted: true},
		{Worker: 0, From: 0, Task: 1, Parted: true}, {Worker: 1, From: 0, Task: 6}, {Worker: 2, From: 2, Task: 3},
		{Worker: 0, From: 0, Task: 5}, {Worker: 1, From: -1, Task: -1}, {Worker: 2, From: 2, Task: 4},
	}
	if e != api.OK || !slices.Equal(l, wanted) || !c.Over || c.Steps != 9 || c.Idle != 2 || crew.Held(c) != 0 || len(c.Work.Tasks) != 7 || slices.Contains(c.Work.Done, false) {
		t.Error(c, l, e)
	}
}

// P6.1: the first round of a drain is round 0, whatever steps the crew has behind it.
func TestDrainAnew(t *testing.T) {
	c := begun(t, 4, 1, 3, [2]int{0, 0}, [2]int{1, 1}, [2]int{2, 0}, [2]int{1, 1})
	_, l, e := Drain(c)
	wanted := []api.Event{
		{Worker: 0, From: 0, Task: 1, Parted: true}, {Worker: 1, From: 2, Task: 4}, {Worker: 2, From: 2, Task: 3},
		{Worker: 0, From: 0, Task: 5}, {Worker: 1, From: 0, Task: 6},
	}
	if e != api.OK || !slices.Equal(l, wanted) {
		t.Error(l, e)
	}
}

// P6.1: as soon as the work is over no worker goes a step any more, in the same round neither.
func TestDrainEndsAtOnce(t *testing.T) {
	for workers := 1; workers <= 8; workers++ {
		if c, l, e := Drain(begun(t, 1, 1, workers)); e != api.OK || !slices.Equal(l, []api.Event{{}}) || !c.Over || c.Steps != 1 || c.Idle != 0 {
			t.Error(workers, c, l, e)
		}
	}
	// Other tasks are let be then.
	c := api.Crew{Work: small(), Deques: [][]int{{2, 7}, {1}}}
	if d, l, e := Drain(c); e != api.OK || !slices.Equal(l, []api.Event{{Task: 7}}) || !d.Over || crew.Held(d) != 2 {
		t.Error(d, l, e)
	}
}

// P6.1: Drain, of crews that may be, is what layer 5's steps come to.
func TestDrainSteps(t *testing.T) {
	for i, c := range rightOnes(t) {
		d, l, e := Drain(c)
		wanted, events, first := stepping(c)
		if e != first || !crew.Same(d, wanted) || !slices.Equal(l, events) {
			t.Error(i, e, first, len(l), len(events))
		}
	}
}

// P6.1: of a crew that is over already nothing is done, whatever it holds, and may it go no step any more.
func TestDrainOver(t *testing.T) {
	for _, deques := range [][][]int{{nil}, {{1, 2}, {7}}, {{}, {8}, nil}} {
		for _, n := range []int{0, 100000} {
			c := api.Crew{Work: small(), Deques: deques, Over: true, Steps: n, Idle: n}
			if d, l, e := Drain(c); e != api.OK || len(l) != 0 || !crew.Same(d, c) {
				t.Error(deques, n, d, l, e)
			}
		}
	}
}

// P6.1: ErrArg of a crew that may not be, be it over, and of one that has nothing to go on with; the crew as it was beside it.
func TestDrainWrong(t *testing.T) {
	nothing := []api.Crew{{Work: small(), Deques: [][]int{nil}}, {Work: small(), Deques: [][]int{nil, {}, nil}, Steps: 100000, Idle: 100000}}
	for i, c := range slices.Concat(wrongOnes(), nothing) {
		was := alike(c)
		if d, l, e := Drain(c); e != api.ErrArg || len(l) != 0 || !crew.Same(d, was) {
			t.Error(i, d, l, e)
		}
	}
}

// P6.1: ErrFull, where no step more is counted: the crew and the events up to there beside it.
func TestDrainFull(t *testing.T) {
	for _, x := range []struct{ steps, idle, events int }{
		{99991, 0, 9}, {99990, 0, 9}, {99992, 0, 8}, {99999, 0, 1}, {100000, 0, 0},
		{0, 99998, 9}, {0, 99999, 7}, {0, 100000, 1}, {100000, 100000, 0}, {99999, 100000, 1},
	} {
		c := begun(t, 4, 1, 3)
		c.Steps, c.Idle = x.steps, x.idle
		d, l, e := Drain(c)
		wanted := api.ErrFull
		if x.events == 9 {
			wanted = api.OK
		}
		_, all, _ := Drain(begun(t, 4, 1, 3))
		if e != wanted || !slices.Equal(l, all[:x.events]) || d.Over != (e == api.OK) || d.Steps != x.steps+x.events || !crew.Right(d) {
			t.Error(x, len(l), d.Steps, e)
		}
	}
}

// P6.1: ErrFull, where layer 4 has no room for halves.
func TestDrainTasksFull(t *testing.T) {
	for n := 1990; n <= 2000; n++ {
		w := api.Work{Tasks: slices.Repeat([]api.Task{{High: 1, Up: -1}}, n), Grain: 1, Done: marks(5)}
		w.Tasks[n-1] = api.Task{High: 5, Up: -1}
		c := api.Crew{Work: w, Deques: [][]int{{n - 1}, nil}}
		d, l, e := Drain(c)
		// Five units by one are parted four times.
		if room := n <= 1992; (e == api.OK) != room || !room && e != api.ErrFull || d.Over != room || d.Steps != len(l) || len(d.Work.Tasks) > 2000 {
			t.Error(n, len(l), len(d.Work.Tasks), e)
		}
		if n > 1998 && (len(l) != 0 || !crew.Same(d, c)) {
			t.Error(n, l)
		}
	}
}

// P6.1: ErrArg of layer 5's Step, where a step leaves a crew that may not be, since tasks share units: the crew and the events as they are then.
func TestDrainLeavesWrong(t *testing.T) {
	w := api.Work{Grain: 2, Done: marks(4), Tasks: []api.Task{{High: 4, Up: -1}, {Low: 1, High: 2}, {Low: 1, High: 3}}}
	c := api.Crew{Work: w, Deques: [][]int{{2, 1}, nil}}
	d, l, e := Drain(c)
	wanted, ev, _ := crew.Step(c, 0, 1)
	if e != api.ErrArg || !slices.Equal(l, []api.Event{ev}) || !crew.Same(d, wanted) || crew.Right(d) {
		t.Error(d, l, e)
	}
}

// P6.1: ErrEmpty, as soon as nothing is held and the work isn't over: ahead of any step more, that there might be no room for.
func TestDrainEmpty(t *testing.T) {
	for _, steps := range []int{0, 99998, 99999} {
		c := api.Crew{Work: small(), Deques: [][]int{nil, {6}, nil}, Steps: steps}
		d, l, e := Drain(c)
		if e != api.ErrEmpty || !slices.Equal(l, []api.Event{{Worker: 0, From: 1, Task: 6}}) || d.Steps != steps+1 || d.Over || crew.Held(d) != 0 {
			t.Error(steps, d, l, e)
		}
		c.Deques = [][]int{{6}}
		if d, l, e := Drain(c); e != api.ErrEmpty || !slices.Equal(l, []api.Event{{Task: 6}}) || d.Steps != steps+1 {
			t.Error(steps, d, l, e)
		}
	}
	// In the midst of a round, and at its end.
	for workers := 1; workers <= 4; workers++ {
		c := begun(t, 8, 1, workers, [2]int{0, 0}, [2]int{0, 0})
		c.Deques[0] = c.Deques[0][1:]
		d, l, e := Drain(c)
		if e != api.ErrEmpty || d.Over || crew.Held(d) != 0 || l[len(l)-1].Task < 0 || d.Steps != 2+len(l) || slices.Index(d.Work.Done, false) != 4 {
			t.Error(workers, d, l, e)
		}
	}
}

// P6.1: Left, of all that deques hold, over or not; of a crew that may not be none.
func TestLeft(t *testing.T) {
	for _, x := range []struct {
		deques [][]int
		wanted int
	}{
		{[][]int{nil}, 0}, {[][]int{{}, nil}, 0}, {[][]int{{2}}, 1}, {[][]int{{1}}, 5}, {[][]int{nil, {5}}, 3}, {[][]int{{8}}, 7},
		{[][]int{{1, 2}, nil, {7}}, 7}, {[][]int{{7, 8}, {1}, {5, 6, 2}}, 18}, {[][]int{7: {6, 8}}, 8},
	} {
		for _, over := range []bool{false, true} {
			c := api.Crew{Work: small(), Deques: x.deques, Over: over, Steps: 3, Idle: 100000}
			if n := Left(c); n != x.wanted || !crew.Right(c) {
				t.Error(x, n)
			}
		}
	}
	for i, c := range wrongOnes() {
		if n := Left(c); n != 0 {
			t.Error(i, n)
		}
	}
	tasks := slices.Repeat([]api.Task{{High: 1000, Up: -1}}, 2000)
	held := make([]int, 2000)
	for i := range held {
		held[i] = i
	}
	if n := Left(api.Crew{Work: api.Work{Tasks: tasks, Grain: 1, Done: marks(1000)}, Deques: [][]int{held[:700], held[700:]}}); n != 2000*1999 {
		t.Error(n)
	}
}

// P6.1: each step that isn't idle leaves one fewer.
func TestLeftFalls(t *testing.T) {
	for workers := 1; workers <= 8; workers++ {
		c := begun(t, 45, 2, workers)
		left, _ := task.Count(45, 2)
		for _, pick := range picksOf(uint32(workers), 300) {
			d, ev, _ := crew.Step(c, pick[0], pick[1])
			if ev.Task >= 0 {
				left--
			}
			if n := Left(d); n != left {
				t.Fatal(workers, pick, n, left)
			}
			c = d
		}
		if left != 0 {
			t.Error(workers, left)
		}
	}
}

// P6.1: Whole, of what no crew is begun with: nothing beside the error, whatever the picks.
func TestWholeWrong(t *testing.T) {
	for _, x := range [][3]int{
		{0, 1, 1}, {-1, 1, 1}, {1001, 1, 1}, {1, 0, 1}, {1, -1, 1}, {1, 101, 1}, {1, 1, 0}, {1, 1, -1}, {1, 1, 9}, {0, 0, 0}, {math.MinInt, 1, 1}, {1, math.MaxInt, 1}, {1, 1, math.MinInt},
	} {
		for _, picks := range [][][2]int{nil, {{0, 0}}, slices.Repeat([][2]int{{1, 1}}, 9)} {
			if c, l, e := Whole(x[0], x[1], x[2], picks); e != api.ErrArg || len(l) != 0 || !crew.Same(c, api.Crew{}) {
				t.Error(x, c, l, e)
			}
		}
		if n := Bound(x[0], x[1], x[2]); n != 0 {
			t.Error(x, n)
		}
	}
}

// wholeness is what Whole is to come to, by layer 5's steps alone.
func wholeness(t *testing.T, n, grain, workers int, picks [][2]int) (api.Crew, []api.Event, api.Errno) {
	c := begun(t, n, grain, workers)
	var l []api.Event
	for _, pick := range picks {
		if c.Over {
			break
		}
		d, ev, e := crew.Step(c, pick[0], pick[1])
		if e != api.OK {
			return c, l, e
		}
		c, l = d, append(l, ev)
	}
	d, more, e := stepping(c)
	return d, append(l, more...), e
}

// P6.1: Whole, by picks without a rule, as many as end the work, fewer, and more.
func TestWhole(t *testing.T) {
	for _, size := range [][2]int{{1, 1}, {2, 1}, {5, 2}, {7, 1}, {33, 2}, {100, 100}, {101, 100}, {150, 7}} {
		for workers := 1; workers <= 8; workers++ {
			for seed, n := range []int{0, 1, 2, 3, 7, 20, 100, 1000} {
				picks := picksOf(uint32(seed), n)
				c, l, e := Whole(size[0], size[1], workers, picks)
				wanted, events, _ := wholeness(t, size[0], size[1], workers, picks)
				if e != api.OK || !crew.Same(c, wanted) || !slices.Equal(l, events) || c.Steps != len(l) {
					t.Error(size, workers, n, e, len(l), len(events))
				}
			}
		}
	}
}

// P6.1: picks behind the end of the work are let be, and those ahead of it are cut to a worker's number.
func TestWholePicks(t *testing.T) {
	c, l, e := Whole(2, 1, 2, [][2]int{{4, 1}, {-1, 8}, {0, 1}, {1, 1}, {1, 0}})
	if e != api.OK || !slices.Equal(l, []api.Event{{Parted: true}, {Worker: 1, Task: 2}, {Task: 1}}) || c.Steps != 3 || c.Idle != 0 || !c.Over {
		t.Error(c, l, e)
	}
	// The rounds begin behind the picks, with worker 0.
	c, l, e = Whole(2, 1, 2, [][2]int{{0, 1}, {math.MinInt + 1, math.MaxInt}})
	if e != api.OK || !slices.Equal(l, []api.Event{{Parted: true}, {Worker: 1, From: -1, Task: -1}, {Task: 1}, {Worker: 1, Task: 2}}) || c.Steps != 4 || c.Idle != 1 || !c.Over {
		t.Error(c, l, e)
	}
}

// P6.1: Whole, of so many picks that no step more is counted, be it one of a pick, or one of a round: the crew and all events up to there beside the error.
func TestWholeFull(t *testing.T) {
	nothing := api.Event{Worker: 1, From: -1, Task: -1}
	for _, x := range []struct {
		picks, events int
		wanted        api.Errno
	}{{99998, 99999, api.OK}, {99999, 100000, api.OK}, {100000, 100000, api.ErrFull}, {100001, 100000, api.ErrFull}, {100009, 100000, api.ErrFull}} {
		c, l, e := Whole(1, 1, 2, slices.Repeat([][2]int{{1, 1}}, x.picks))
		idle := min(x.picks, 100000)
		if e != x.wanted || len(l) != x.events || c.Steps != x.events || c.Idle != idle || c.Over != (e == api.OK) || !slices.Equal(l[:idle], slices.Repeat([]api.Event{nothing}, idle)) {
			t.Error(x, len(l), c, e)
		}
	}
}

// P6.1: Leaves, of the events that are of a task, and of none; of a crew that may not be, too.
func TestLeaves(t *testing.T) {
	for _, x := range []struct {
		l      []api.Event
		wanted []api.Span
	}{
		{nil, nil},
		{[]api.Event{{}}, []api.Span{{From: 0, To: 10}}},
		{[]api.Event{{Task: 2}, {Task: 7}, {Task: 3}}, []api.Span{{From: 0, To: 3}, {From: 9, To: 10}, {From: 8, To: 9}}},
		{[]api.Event{{Task: 8}, {Task: 8, Worker: 3, From: 1}}, []api.Span{{From: 0, To: 10}, {From: 0, To: 10}}},
		{[]api.Event{{Task: 9}, {Task: 6}, {Task: math.MaxInt}, {Task: -2}, {Task: math.MinInt}}, []api.Span{{From: 5, To: 7}}},
		{[]api.Event{{Task: 2, Parted: true}, {Task: 99, Parted: true}, {From: -1, Task: -1}, {From: -1, Task: -1, Parted: true}}, nil},
		{[]api.Event{{Task: -1}, {From: -1, Task: 2}, {From: -1}, {From: -2, Task: 2}}, []api.Span{{From: 0, To: 3}}},
		{[]api.Event{{Worker: -4, From: 77, Task: 2}}, []api.Span{{From: 0, To: 3}}},
	} {
		if s := Leaves(api.Crew{Work: small(), Deques: [][]int{{1}}}, x.l); !slices.Equal(s, x.wanted) {
			t.Error(x.l, s)
		}
		if s := Leaves(api.Crew{}, x.l); len(s) != 0 {
			t.Error(x.l, s)
		}
	}
	odd := api.Crew{Work: api.Work{Tasks: []api.Task{{Low: 9, High: -4, Wait: 7}, {}}}}
	if s := Leaves(odd, []api.Event{{Task: 1}, {Task: 0}, {Task: 2}}); !slices.Equal(s, []api.Span{{}, {From: 9, To: -4}}) {
		t.Error(s)
	}
}

// P6.1: Bound, held against how many tasks there are at last.
func TestBound(t *testing.T) {
	for _, x := range []struct{ n, grain, workers, wanted int }{
		{1, 1, 1, 2}, {1, 1, 8, 16}, {6, 1, 1, 12}, {3, 1, 2, 12}, {5, 2, 3, 18}, {100, 100, 4, 8}, {101, 100, 4, 16}, {1000, 1, 8, 16000}, {1000, 100, 8, 256},
	} {
		if n := Bound(x.n, x.grain, x.workers); n != x.wanted {
			t.Error(x, n)
		}
		if c, _, e := Whole(x.n, x.grain, x.workers, nil); e != api.OK || x.wanted != x.workers*(len(c.Work.Tasks)+1) {
			t.Error(x, len(c.Work.Tasks), e)
		}
	}
}

// ended: was the work ended by these steps as it is to be: within the bound of what was left, something in each round, each unit in one leaf?
func ended(c api.Crew, steps []api.Event, left int, all []api.Event) bool {
	workers := len(c.Deques)
	if !c.Over || crew.Held(c) != 0 || len(steps) > workers*(left+1) || !crew.Right(c) {
		return false
	}
	for round := range slices.Chunk(steps, workers) {
		if !slices.ContainsFunc(round, func(ev api.Event) bool { return ev.Task >= 0 }) {
			return false
		}
	}
	times := make([]int, len(c.Work.Done))
	for _, s := range Leaves(c, all) {
		for unit := s.From; unit < s.To; unit++ {
			times[unit]++
		}
	}
	return slices.Min(times) == 1 && slices.Max(times) == 1 && !slices.Contains(c.Work.Done, false)
}

// P6.2: by picks without a rule.
func TestItEnds(t *testing.T) {
	for _, size := range [][2]int{{1, 1}, {2, 1}, {3, 1}, {6, 1}, {23, 2}, {64, 1}, {100, 100}, {101, 100}, {151, 7}} {
		for workers := 1; workers <= 8; workers++ {
			for seed, n := range []int{0, 1, 2, 5, 11, 40, 300} {
				c, e := crew.Begin(size[0], size[1], workers)
				c, ahead, _ := crew.Run(c, picksOf(uint32(seed+workers), n))
				left := Left(c)
				d, l, e := Drain(c)
				if e != api.OK || !ended(d, l, left, slices.Concat(ahead, l)) {
					t.Error(size, workers, n, len(l), left, e)
				}
				w, all, e := Whole(size[0], size[1], workers, picksOf(uint32(seed+workers), n))
				if e != api.OK || !ended(w, nil, 0, all) || len(all) > n+Bound(size[0], size[1], workers) {
					t.Error(size, workers, n, len(all), e)
				}
			}
		}
	}
}

// P6.2: behind all picks of small works, up to so many.
func TestItEndsBehindAll(t *testing.T) {
	for _, x := range []struct{ n, grain, workers, picks int }{{2, 1, 2, 4}, {4, 1, 2, 5}, {5, 2, 2, 5}, {4, 1, 3, 4}, {5, 1, 3, 3}} {
		var goOn func(c api.Crew, ahead []api.Event, more int)
		goOn = func(c api.Crew, ahead []api.Event, more int) {
			d, l, e := Drain(c)
			if e != api.OK || !ended(d, l, Left(c), slices.Concat(ahead, l)) {
				t.Error(x, ahead, l, e)
			}
			if more == 0 {
				return
			}
			for p := range x.workers {
				for v := range x.workers {
					next, ev, _ := crew.Step(c, p, v)
					goOn(next, slices.Concat(ahead, []api.Event{ev}), more-1)
				}
			}
		}
		goOn(begun(t, x.n, x.grain, x.workers), nil, x.picks)
	}
}

// P6.2: the greatest work, by one unit at once.
func TestItEndsGreatest(t *testing.T) {
	for _, workers := range []int{1, 2, 7, 8} {
		c, l, e := Whole(1000, 1, workers, nil)
		if e != api.OK || !ended(c, l, 1999, l) || len(c.Work.Tasks) != 1999 || len(l)-c.Idle != 1999 {
			t.Error(workers, len(l), c.Idle, e)
		}
	}
}

// P6.2: one worker alone is never idle: its tasks, one after the other, the left ones first (the chapter's example).
func TestOneWorker(t *testing.T) {
	for _, size := range [][2]int{{1, 1}, {6, 1}, {50, 3}, {300, 100}} {
		c, l, e := Whole(size[0], size[1], 1, nil)
		tasks, leaves := task.Count(size[0], size[1])
		s := Leaves(c, l)
		if e != api.OK || len(l) != tasks || c.Idle != 0 || len(s) != leaves {
			t.Error(size, len(l), c.Idle, len(s), e)
		}
		from := 0
		for _, span := range s {
			if span.From != from {
				t.Error(size, s)
			}
			from = span.To
		}
	}
}

// roomy is a crew with spare room in its lists, that is told apart if something is written there.
func roomy(c api.Crew) api.Crew {
	r := alike(c)
	r.Work.Tasks = append(r.Work.Tasks, api.Task{Low: -7}, api.Task{Low: -7})[:len(c.Work.Tasks)]
	r.Work.Done = append(r.Work.Done, true, false)[:len(c.Work.Done)]
	for p, l := range r.Deques {
		r.Deques[p] = append(l, -7, -7)[:len(l)]
	}
	r.Deques = append(r.Deques, []int{-7})[:len(c.Deques)]
	return r
}

// kept: is a crew that roomy made as it was, with the room behind its lists?
func kept(c, was api.Crew) bool {
	tasks, done, deques := len(c.Work.Tasks), len(c.Work.Done), len(c.Deques)
	for _, l := range c.Deques {
		if n := len(l); !slices.Equal(l[n:n+2], []int{-7, -7}) {
			return false
		}
	}
	return crew.Same(c, was) && slices.Equal(c.Deques[:deques+1][deques], []int{-7}) &&
		slices.Equal(c.Work.Tasks[tasks:tasks+2], []api.Task{{Low: -7}, {Low: -7}}) && slices.Equal(c.Work.Done[done:done+2], []bool{true, false})
}

// spoil writes over all that a crew has, and over the room behind it.
func spoil(c api.Crew) {
	tasks, done, deques := c.Work.Tasks[:cap(c.Work.Tasks)], c.Work.Done[:cap(c.Work.Done)], c.Deques[:cap(c.Deques)]
	for i := range tasks {
		tasks[i] = api.Task{Low: 77}
	}
	for i := range done {
		done[i] = !done[i]
	}
	for p, l := range deques {
		for i := range l[:cap(l)] {
			l[:cap(l)][i] = 77
		}
		deques[p] = nil
	}
}

// P6.1: what is handed in is not changed, nor its spare room; what is answered shares nothing with it, beside an error neither.
func TestLeavesArguments(t *testing.T) {
	for i, was := range slices.Concat(rightOnes(t), wrongOnes()) {
		c := roomy(was)
		d, l, _ := Drain(c)
		wasL := slices.Clone(l)
		s := Leaves(d, l)
		wasS := slices.Clone(s)
		Left(c)
		spoil(d)
		if !kept(c, was) || !slices.Equal(l, wasL) || !slices.Equal(s, wasS) {
			t.Error(i)
		}
	}
	picks := [][2]int{{0, 0}, {1, 0}, {0, 1}, {9, 9}}
	Whole(5, 1, 3, picks[:2])
	if !slices.Equal(picks, [][2]int{{0, 0}, {1, 0}, {0, 1}, {9, 9}}) {
		t.Error(picks)
	}
}

// P6.1: no two deques of an answer share.
func TestDequesShareNone(t *testing.T) {
	for i, c := range slices.Concat(rightOnes(t), wrongOnes()) {
		d, _, _ := Drain(c)
		was := alike(d)
		for p := range d.Deques {
			full := d.Deques[p][:cap(d.Deques[p])]
			for k := range full {
				full[k] = 77
			}
			for q := p + 1; q < len(d.Deques); q++ {
				if !slices.Equal(d.Deques[q], was.Deques[q]) {
					t.Fatal(i, p, q)
				}
			}
		}
	}
}
