package radix

import (
	"archipelago/api"
	"archipelago/drain"
	"archipelago/scan"
	"math"
	"slices"
	"testing"
)

// noBits are some of those that a digit may not have.
var noBits = []int{0, -1, -8, 17, 18, 32, 33, 64, 1<<32 + 8, -1<<32 + 8, math.MinInt, math.MinInt + 8, math.MaxInt}

// noPasses are some of those that there are of no digits, whatever their bits.
var noPasses = []int{-1, -2, 32, 33, 64, 1 << 32, 1<<32 + 1, -1 << 32, math.MinInt, math.MaxInt}

// noSizes are some of those that a block may not have.
var noSizes = []int{0, -1, 101, 102, 1000, 1<<32 + 1, -1<<32 + 5, math.MinInt, math.MaxInt}

// picksOf are n picks without a rule, some beyond a worker's number.
func picksOf(seed uint32, n int) [][2]int {
	x := seed*2654435761 + 17
	var l [][2]int
	for range n {
		x = x*1664525 + 1013904223
		l = append(l, [2]int{int(x>>8)%40 - 20, int(x>>16) % 11})
	}
	return l
}

// keysOf are n keys without a rule, some of them small.
func keysOf(seed uint32, n int) []uint32 {
	x := seed*2246822519 + 5
	var l []uint32
	for range n {
		x = x*1664525 + 1013904223
		l = append(l, x>>(x>>8%32))
	}
	return l
}

// fewOf are n keys without a rule, of which many are the same, and of the same digits.
func fewOf(seed uint32, n int) []uint32 {
	x := seed*3266489917 + 11
	kinds := []uint32{0, 1, 0x80000000, 0xffffffff, 0x10000, 0xffff, 0x10001, 2}
	var l []uint32
	for range n {
		x = x*1664525 + 1013904223
		l = append(l, kinds[x>>13%8])
	}
	return l
}

// listsOf are lists of n keys each: without a rule, many the same, all the same, rising, falling.
func listsOf(n int) [][]uint32 {
	rising, falling, same := make([]uint32, n), make([]uint32, n), make([]uint32, n)
	for i := range n {
		rising[i], falling[i], same[i] = uint32(i)*70001, math.MaxUint32-uint32(i)*70001, 0x80018001
	}
	return [][]uint32{keysOf(uint32(n), n), fewOf(uint32(n), n), same, rising, falling}
}

// allLists are all lists of n keys, each one of those.
func allLists(n int, kinds []uint32) [][]uint32 {
	l := [][]uint32{nil}
	for range n {
		var longer [][]uint32
		for _, ahead := range l {
			for _, key := range kinds {
				longer = append(longer, append(slices.Clone(ahead), key))
			}
		}
		l = longer
	}
	return l
}

// allOrders are all orders of n places.
func allOrders(n int) [][]int {
	l := [][]int{nil}
	for i := range n {
		var longer [][]int
		for _, ahead := range l {
			for spot := 0; spot <= i; spot++ {
				longer = append(longer, slices.Insert(slices.Clone(ahead), spot, i))
			}
		}
		l = longer
	}
	return l
}

// orderOf is an order of n places without a rule.
func orderOf(seed uint32, n int) []int {
	x := seed*2654435761 + 3
	var l []int
	for i := range n {
		x = x*1664525 + 1013904223
		l = slices.Insert(l, int(x>>3)%(i+1), i)
	}
	return l
}

// wrongOrders are lists that are no orders of n places, each for one thing.
func wrongOrders(n int) [][]int {
	l := [][]int{append(orderOf(1, n), n), append(orderOf(2, n), 0), append(orderOf(2, n), -1)}
	for spot := range n {
		for _, place := range []int{n, -1, n + 1, -n - 1, 1<<32 + spot, -1<<32 + spot, math.MinInt, math.MaxInt} {
			wrong := orderOf(uint32(spot), n)
			wrong[spot] = place
			l = append(l, wrong)
		}
		if n > 1 {
			twice := orderOf(uint32(spot), n)
			twice[spot] = twice[(spot+1)%n]
			l = append(l, twice)
		}
		l = append(l, slices.Delete(orderOf(4, n), spot, spot+1))
	}
	return l
}

// rightPlans are plans that may be, up to the edges.
func rightPlans() []api.Plan {
	l := []api.Plan{
		{Grain: 1, Workers: 1}, {Grain: 100, Workers: 8}, {Grain: 1, Workers: 8}, {Grain: 100, Workers: 1, Picks: [][2]int{}},
		{Grain: 7, Workers: 3, Picks: [][2]int{{math.MinInt, math.MaxInt}, {math.MaxInt, math.MinInt}, {-1, -1}}},
		{Grain: 1, Workers: 2, Picks: slices.Repeat([][2]int{{1, 1}}, 4000)},
		{Grain: 2, Workers: 4, Picks: slices.Repeat([][2]int{{3, 0}, {2, 3}, {1, 2}}, 20)},
	}
	for seed, n := range []int{1, 30, 300, 4000} {
		l = append(l, api.Plan{Grain: 1 + seed*seed, Workers: 1 + (seed+3)%8, Picks: picksOf(uint32(seed), n)})
	}
	return l
}

// wrongPlans are plans that may not be, but the first one each for one thing alone.
func wrongPlans() []api.Plan {
	l := []api.Plan{{}, {Grain: 1, Workers: 1, Picks: make([][2]int, 4001)}, {Grain: 100, Workers: 8, Picks: make([][2]int, 9000)}}
	for _, grain := range []int{0, -1, 101, 1<<32 + 1, math.MinInt, math.MaxInt} {
		l = append(l, api.Plan{Grain: grain, Workers: 2, Picks: [][2]int{{0, 0}}})
	}
	for _, workers := range []int{0, -1, 9, 1<<32 + 1, math.MinInt, math.MaxInt} {
		l = append(l, api.Plan{Grain: 2, Workers: workers})
	}
	return l
}

// digitOf is a key's digit, divided off digit by digit.
func digitOf(key uint32, pass, bits int) uint32 {
	rest, base := uint64(key), uint64(1)
	for range bits {
		base *= 2
	}
	for range pass {
		rest /= base
	}
	return uint32(rest % base)
}

// inserted is an order by what is told of keys, place by place put in behind all that have no more.
func inserted(keys []uint32, order []int, told func(key uint32) uint32) []int {
	var l []int
	for _, i := range order {
		spot := len(l)
		for spot > 0 && told(keys[l[spot-1]]) > told(keys[i]) {
			spot--
		}
		l = slices.Insert(l, spot, i)
	}
	return l
}

// placesOf are n places as they stand.
func placesOf(n int) []int {
	var l []int
	for i := range n {
		l = append(l, i)
	}
	return l
}

// P10.1: Passes, of all bits that there may be, and of others.
func TestPasses(t *testing.T) {
	for i, wanted := range []int{0, 32, 16, 11, 8, 7, 6, 5, 4, 4, 4, 3, 3, 3, 3, 3, 2, 0, 0} {
		if n := Passes(i); n != wanted {
			t.Error(i, n, wanted)
		}
	}
	for _, bits := range noBits {
		if n := Passes(bits); n != 0 {
			t.Error(bits, n)
		}
	}
}

// P10.1: Digit, of keys that one can go through by hand.
func TestDigit(t *testing.T) {
	for _, x := range []struct {
		key        uint32
		pass, bits int
		wanted     uint32
	}{
		{0x12345678, 0, 4, 8}, {0x12345678, 1, 4, 7}, {0x12345678, 7, 4, 1}, {0x12345678, 0, 8, 0x78}, {0x12345678, 3, 8, 0x12},
		{0x12345678, 0, 16, 0x5678}, {0x12345678, 1, 16, 0x1234}, {0x12345678, 2, 12, 0x12}, {0x12345678, 1, 12, 0x345},
		{0x80000000, 31, 1, 1}, {0x80000000, 30, 1, 0}, {0x80000001, 0, 1, 1}, {0xffffffff, 10, 3, 3}, {0xffffffff, 9, 3, 7},
		{0xffffffff, 6, 5, 3}, {0xffffffff, 2, 15, 3}, {0xffffffff, 2, 14, 15}, {0xffffffff, 4, 7, 15}, {0, 0, 16, 0},
	} {
		if d := Digit(x.key, x.pass, x.bits); d != x.wanted {
			t.Error(x, d)
		}
	}
}

// P10.1: all digits are those divided off, and together they are the key; of no such pass, or bits, it is 0.
func TestDigits(t *testing.T) {
	for _, key := range slices.Concat(keysOf(1, 50), fewOf(2, 20), []uint32{0, math.MaxUint32, 0x7fffffff, 0x55555555}) {
		for bits := 1; bits <= 16; bits++ {
			all := uint64(0)
			for pass := Passes(bits) - 1; pass >= 0; pass-- {
				d := Digit(key, pass, bits)
				if d != digitOf(key, pass, bits) {
					t.Error(key, pass, bits, d)
				}
				all = all<<bits + uint64(d)
			}
			if all != uint64(key) {
				t.Error(key, bits, all)
			}
			for _, pass := range append(noPasses, Passes(bits), Passes(bits)+1) {
				if d := Digit(key, pass, bits); d != 0 {
					t.Error(key, pass, bits, d)
				}
			}
		}
		for _, bits := range noBits {
			for pass := -2; pass < 34; pass++ {
				if d := Digit(key, pass, bits); d != 0 {
					t.Error(key, pass, bits, d)
				}
			}
		}
	}
}

// P10.1: Pass, of orders that one can go through by hand.
func TestPassByHand(t *testing.T) {
	keys := []uint32{0x12, 0x21, 0x11, 0x02, 0x12}
	for _, x := range []struct {
		order      []int
		pass, bits int
		wanted     []int
	}{
		{[]int{0, 1, 2, 3, 4}, 0, 4, []int{1, 2, 0, 3, 4}},
		{[]int{4, 3, 2, 1, 0}, 0, 4, []int{2, 1, 4, 3, 0}},
		{[]int{4, 3, 2, 1, 0}, 1, 4, []int{3, 4, 2, 0, 1}},
		{[]int{4, 0, 3, 1, 2}, 0, 8, []int{3, 2, 4, 0, 1}},
		{[]int{4, 0, 3, 1, 2}, 1, 8, []int{4, 0, 3, 1, 2}},
		{[]int{4, 0, 3, 1, 2}, 1, 16, []int{4, 0, 3, 1, 2}},
		{[]int{4, 0, 3, 1, 2}, 5, 1, []int{4, 0, 3, 2, 1}},
		{[]int{4, 0, 3, 1, 2}, 0, 1, []int{4, 0, 3, 1, 2}},
		{[]int{1, 2, 4, 0, 3}, 0, 1, []int{4, 0, 3, 1, 2}},
	} {
		if order, ok := Pass(keys, x.order, x.pass, x.bits); !ok || !slices.Equal(order, x.wanted) {
			t.Error(x, order, ok)
		}
	}
	for _, none := range [][]int{nil, {}} {
		if order, ok := Pass(nil, none, 3, 8); !ok || len(order) != 0 {
			t.Error(order, ok)
		}
		if keys, ok := Sorted([]uint32{}, none); !ok || len(keys) != 0 {
			t.Error(keys, ok)
		}
	}
}

// passes: is each pass of an order, by digits of so many bits, what is put in place by place?
func passes(t *testing.T, keys []uint32, order []int, bits int) {
	t.Helper()
	for pass := range Passes(bits) {
		wanted := inserted(keys, order, func(key uint32) uint32 { return digitOf(key, pass, bits) })
		if got, ok := Pass(keys, order, pass, bits); !ok || !slices.Equal(got, wanted) {
			t.Error(keys, order, pass, bits, got, ok)
		}
	}
}

// P10.1: Pass, of all orders of a few keys, and by all digits.
func TestPass(t *testing.T) {
	for n := 0; n <= 5; n++ {
		for _, order := range allOrders(n) {
			for _, keys := range [][]uint32{{0, 3, 1, 2, 3}, {7, 7, 7, 7, 7}, {0x80000000, 1, 0x80000001, 0, 0x10000}} {
				for _, bits := range []int{1, 2, 5, 8} {
					passes(t, keys[:n], order, bits)
				}
			}
		}
	}
	for _, n := range []int{1, 2, 9, 60} {
		for i, keys := range listsOf(n) {
			for bits := 1; bits <= 16; bits++ {
				passes(t, keys, orderOf(uint32(i+bits), n), bits)
			}
		}
	}
	for _, n := range []int{1000, 1001, 1500} {
		passes(t, fewOf(3, n), orderOf(3, n), 16)
	}
}

// P10.1: Sorted, of all orders of a few keys, and of more keys than others take.
func TestSorted(t *testing.T) {
	l := []uint32{5, 0xffffffff, 0, 5, 9}
	for n := 0; n <= 5; n++ {
		for _, order := range allOrders(n) {
			var wanted []uint32
			for _, i := range order {
				wanted = append(wanted, l[i])
			}
			if got, ok := Sorted(l[:n], order); !ok || !slices.Equal(got, wanted) {
				t.Error(order, got, ok)
			}
		}
	}
	keys, order := keysOf(1, 3000), placesOf(3000)
	slices.Reverse(order)
	got, ok := Sorted(keys, order)
	slices.Reverse(got)
	if !ok || !slices.Equal(got, keys) {
		t.Error(ok)
	}
}

// P10.1: of a list that is no order, or of no such pass, there is none, and false.
func TestWrongOrder(t *testing.T) {
	for _, n := range []int{0, 1, 2, 3, 8, 40} {
		keys := keysOf(2, n)
		for _, wrong := range wrongOrders(n) {
			if got, ok := Sorted(keys, wrong); ok || len(got) != 0 {
				t.Error("Sorted", n, wrong, got)
			}
			for _, bits := range []int{1, 8, 16} {
				if got, ok := Pass(keys, wrong, 0, bits); ok || len(got) != 0 {
					t.Error("Pass", n, wrong, bits, got)
				}
			}
		}
		order := orderOf(1, n)
		for bits := 1; bits <= 16; bits++ {
			for _, pass := range append(noPasses, Passes(bits), Passes(bits)+1) {
				if got, ok := Pass(keys, order, pass, bits); ok || len(got) != 0 {
					t.Error(n, pass, bits, got)
				}
			}
		}
		for _, bits := range noBits {
			for pass := -2; pass < 34; pass++ {
				if got, ok := Pass(keys, order, pass, bits); ok || len(got) != 0 {
					t.Error(n, pass, bits, got)
				}
			}
		}
	}
}

// sorts: is the order of the keys what is put in place by place?
func sorts(t *testing.T, keys []uint32, bits, block int, p api.Plan) {
	t.Helper()
	wanted := inserted(keys, placesOf(len(keys)), func(key uint32) uint32 { return key })
	if got, _, e := Sort(keys, bits, block, p); e != api.OK || !slices.Equal(got, wanted) {
		t.Error(keys, bits, block, p.Grain, p.Workers, got, e)
	}
}

// P10.1: Sort, of keys that one can go through by hand.
func TestSortByHand(t *testing.T) {
	p := api.Plan{Grain: 1, Workers: 3}
	for _, x := range []struct {
		keys   []uint32
		wanted []int
	}{
		{[]uint32{3, 1, 2}, []int{1, 2, 0}},
		{[]uint32{7}, []int{0}},
		{[]uint32{4, 4, 4, 4}, []int{0, 1, 2, 3}},
		{[]uint32{1, 0, 1, 0}, []int{1, 3, 0, 2}},
		{[]uint32{0x80000000, 0x7fffffff, math.MaxUint32, 0}, []int{3, 1, 0, 2}},
		{[]uint32{0x10000, 0xffff, 0x1000000, 0xff00, 0x10000}, []int{3, 1, 0, 4, 2}},
	} {
		for bits := 1; bits <= 16; bits++ {
			if order, _, e := Sort(x.keys, bits, 2, p); e != api.OK || !slices.Equal(order, x.wanted) {
				t.Error(x, bits, order, e)
			}
		}
	}
}

// P10.1: steps are those of two phases of as many units as blocks, for each pass.
func TestSteps(t *testing.T) {
	for _, x := range []struct {
		n, bits, block int
		p              api.Plan
		steps          int
	}{
		{1, 16, 1, api.Plan{Grain: 1, Workers: 1}, 4},
		{3, 8, 1, api.Plan{Grain: 1, Workers: 1}, 40},
		{9, 8, 3, api.Plan{Grain: 1, Workers: 1}, 40},
		{9, 11, 4, api.Plan{Grain: 1, Workers: 1}, 30},
		{9, 1, 9, api.Plan{Grain: 1, Workers: 1}, 64},
		{9, 5, 1, api.Plan{Grain: 100, Workers: 1}, 14},
		{4, 16, 2, api.Plan{Grain: 1, Workers: 3}, 16},
		{1000, 16, 1, api.Plan{Grain: 1, Workers: 1}, 7996},
		{1000, 1, 100, api.Plan{Grain: 1, Workers: 1}, 1216},
	} {
		for _, keys := range listsOf(x.n) {
			if _, steps, e := Sort(keys, x.bits, x.block, x.p); e != api.OK || steps != x.steps {
				t.Error(x.n, x.bits, x.block, x.p.Grain, x.p.Workers, steps, x.steps, e)
			}
		}
	}
	for i, p := range rightPlans() {
		for _, n := range []int{1, 2, 9, 101} {
			for _, block := range []int{1, 2, 7, 100} {
				c, _, _ := drain.Whole(scan.Blocks(n, block), p.Grain, p.Workers, p.Picks)
				_, _, scanned, e := scan.Sums(make([]uint32, n), block, p)
				if e != api.OK || scanned != 2*c.Steps {
					t.Error(i, n, block, scanned, c.Steps, e)
				}
				bits := 1 + (i+n+block)%16
				if _, steps, e := Sort(fewOf(1, n), bits, block, p); e != api.OK || steps != scanned*Passes(bits) {
					t.Error(i, n, bits, block, steps, scanned, e)
				}
			}
		}
	}
}

// P10.1: no keys, nil or not, are nothing, of no steps.
func TestNoKeys(t *testing.T) {
	for i, p := range rightPlans() {
		for bits := 1; bits <= 16; bits++ {
			for _, keys := range [][]uint32{nil, {}} {
				if order, steps, e := Sort(keys, bits, 1+bits*6, p); e != api.OK || len(order) != 0 || steps != 0 {
					t.Error(i, bits, order, steps, e)
				}
			}
		}
	}
}

// wrong: is Sort of n keys ErrArg, and nothing beside it?
func wrong(t *testing.T, n, bits, block int, p api.Plan) {
	t.Helper()
	if order, steps, e := Sort(keysOf(1, n), bits, block, p); e != api.ErrArg || len(order) != 0 || steps != 0 {
		t.Error(n, bits, block, p.Grain, p.Workers, len(order), steps, e)
	}
}

// P10.1: ErrArg, and nothing beside it: of digits of no such bits, of blocks of no such size, of too many keys, by a plan that may not be, of no keys neither.
func TestWrong(t *testing.T) {
	good := api.Plan{Grain: 1, Workers: 2}
	for _, n := range []int{0, 1, 5, 1000, 1001, 3000} {
		for _, bits := range noBits {
			wrong(t, n, bits, 1, good)
			wrong(t, n, bits, 100, good)
			wrong(t, n, bits, 0, api.Plan{})
		}
		for _, bits := range []int{1, 8, 16} {
			for _, block := range noSizes {
				wrong(t, n, bits, block, good)
			}
			for _, p := range wrongPlans() {
				wrong(t, n, bits, 1, p)
				wrong(t, n, bits, 100, p)
			}
		}
	}
	for _, n := range []int{1001, 1002, 1100, 5000} {
		for bits := 1; bits <= 16; bits++ {
			for _, block := range []int{1, 2, 100} {
				wrong(t, n, bits, block, good)
				wrong(t, n, bits, block, api.Plan{Grain: 100, Workers: 8, Picks: picksOf(1, 9)})
			}
		}
	}
}

// P10.2: by all plans, of digits of all bits, of blocks of all sizes, keys are sorted the same way.
func TestSort(t *testing.T) {
	for i, p := range rightPlans() {
		for _, n := range []int{1, 2, 10, 130} {
			for k, keys := range listsOf(n) {
				for _, bits := range []int{1 + (i+k+n)%16, 16 - k} {
					sorts(t, keys, bits, []int{1, 2, 3, 7, 64, 99, 100}[(i+k)%7], p)
				}
			}
		}
	}
	for block := 1; block <= 100; block++ {
		sorts(t, fewOf(uint32(block), 50), 1+block%16, block, api.Plan{Grain: 2, Workers: 3, Picks: picksOf(2, 15)})
	}
	for _, keys := range listsOf(1000) {
		sorts(t, keys, 8, 10, api.Plan{Grain: 30, Workers: 8})
	}
	sorts(t, keysOf(5, 999), 16, 1, api.Plan{Grain: 1, Workers: 1})
}

// P10.2: whatever a few keys are.
func TestAllLists(t *testing.T) {
	for n := 0; n <= 4; n++ {
		for _, keys := range allLists(n, []uint32{0, 1, 0x100, 0x80000001, 0xffffffff}) {
			for _, bits := range []int{1, 3, 8, 11} {
				sorts(t, keys, bits, 2, api.Plan{Grain: 1, Workers: 2, Picks: [][2]int{{0, 0}, {1, 0}}})
			}
		}
	}
}

// P10.2: sorted keys rise, those that are the same stand as they stood, each place is there once.
func TestRising(t *testing.T) {
	p := api.Plan{Grain: 4, Workers: 3, Picks: picksOf(6, 10)}
	for _, n := range []int{1, 2, 31, 300, 1000} {
		for _, keys := range listsOf(n) {
			for bits := 1; bits <= 16; bits++ {
				order, _, e := Sort(keys, bits, 50, p)
				sorted, ok := Sorted(keys, order)
				if e != api.OK || !ok || len(sorted) != n {
					t.Fatal(n, bits, e, ok)
				}
				for i := 1; i < n; i++ {
					if sorted[i] < sorted[i-1] || sorted[i] == sorted[i-1] && order[i] < order[i-1] {
						t.Fatal(n, bits, i, sorted[i-1], sorted[i])
					}
				}
			}
		}
	}
}

// P10.2: the order is that of all passes, one behind the other.
func TestPassByPass(t *testing.T) {
	p := api.Plan{Grain: 1, Workers: 2}
	for _, keys := range append(listsOf(40), nil) {
		for bits := 1; bits <= 16; bits++ {
			order := placesOf(len(keys))
			for pass := range Passes(bits) {
				next, ok := Pass(keys, order, pass, bits)
				if !ok {
					t.Fatal(bits, pass)
				}
				order = next
			}
			if got, _, e := Sort(keys, bits, 8, p); e != api.OK || !slices.Equal(got, order) {
				t.Error(keys, bits, got, order, e)
			}
		}
	}
}

// P10.1: what is handed in is not changed, nor its spare room; what is answered shares nothing with it.
func TestLeavesArguments(t *testing.T) {
	for _, n := range []int{0, 1, 6, 40} {
		for _, wasKeys := range listsOf(n) {
			wasKeys, wasOrder, wasPicks := append(wasKeys, 77, 78, 79), append(orderOf(3, n), 7, 8), append(picksOf(9, 12), [2]int{7, 7})
			keys, order, picks := slices.Clone(wasKeys), slices.Clone(wasOrder), slices.Clone(wasPicks)
			p := api.Plan{Grain: 2, Workers: 3, Picks: picks[:12]}
			for bits := 0; bits <= 17; bits++ {
				sort, _, _ := Sort(keys[:n], bits, 3, p)
				pass, _ := Pass(keys[:n], order[:n], 1, bits)
				again, _ := Pass(keys[:n], order[:n], 1, bits)
				sorted, _ := Sorted(keys[:n], order[:n])
				once := slices.Clone(again)
				for _, answer := range [][]int{sort[:cap(sort)], pass[:cap(pass)]} {
					for i := range answer {
						answer[i] = -5
					}
				}
				sorted = sorted[:cap(sorted)]
				for i := range sorted {
					sorted[i] = 5555
				}
				if !slices.Equal(keys, wasKeys) || !slices.Equal(order, wasOrder) || !slices.Equal(picks, wasPicks) || !slices.Equal(again, once) {
					t.Error(n, bits)
				}
			}
		}
	}
}

// P10.1: a call hangs on its arguments alone: asked again, behind others, it answers the same.
func TestAskedAgain(t *testing.T) {
	keys, p := fewOf(4, 50), api.Plan{Grain: 1, Workers: 4, Picks: picksOf(4, 20)}
	order, steps, _ := Sort(keys, 5, 3, p)
	clear(order)
	for _, other := range rightPlans() {
		Sort(keysOf(9, 70), 9, 2, other)
	}
	sorts(t, keys, 5, 3, p)
	if _, again, _ := Sort(keys, 5, 3, p); again != steps {
		t.Error(again, steps)
	}
}
