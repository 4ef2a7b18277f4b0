package table

import (
	"archipelago/api"
	"math"
	"slices"
	"testing"
)

// noBits are some of those that a table may not be of.
var noBits = []int{0, -1, 11, 12, 31, 32, 64, 1<<32 + 3, -1<<32 + 3, math.MinInt, math.MaxInt}

// rooms are how many keys a table may have, of each number of bits from 1 on.
var rooms = []int{1, 3, 6, 12, 24, 48, 96, 192, 384, 768}

// ofHome are n keys, from a first one on, whose home of b bits is that one.
func ofHome(b, home, n int, first uint32) []uint32 {
	var keys []uint32
	for key := first; len(keys) < n; key++ {
		if homeOf(b, key) == home {
			keys = append(keys, key)
		}
	}
	return keys
}

// homeOf is a key's home of b bits, by a number that isn't cut, and halved bit by bit.
func homeOf(b int, key uint32) int {
	home := uint64(key) * 2654435761 % (1 << 32)
	for range 32 - b {
		home /= 2
	}
	return int(home)
}

// amongOf are n keys without a rule, each below so many, or of all words.
func amongOf(seed uint32, n int, below uint32) []uint32 {
	x := seed*3266489917 + 11
	var l []uint32
	for range n {
		x = x*1664525 + 1013904223
		key := x ^ x>>15
		if below > 0 {
			key %= below
		}
		l = append(l, key)
	}
	return l
}

// subset are those of the kinds whose bits are in the mask.
func subset(kinds []uint32, mask int) []uint32 {
	var l []uint32
	for i, kind := range kinds {
		if mask>>i&1 == 1 {
			l = append(l, kind)
		}
	}
	return l
}

// orders are all orders of a list.
func orders(l []uint32) [][]uint32 {
	if len(l) == 0 {
		return [][]uint32{nil}
	}
	var all [][]uint32
	for i, key := range l {
		rest := slices.Delete(slices.Clone(l), i, i+1)
		for _, order := range orders(rest) {
			all = append(all, append([]uint32{key}, order...))
		}
	}
	return all
}

// once are keys, rising, each once, by a count of all.
func once(keys []uint32) []uint32 {
	counts := map[uint32]int{}
	for _, key := range keys {
		counts[key]++
	}
	var l []uint32
	for key := range counts {
		l = append(l, key)
	}
	slices.Sort(l)
	return l
}

// model is the table of keys: the least one of those that aren't in yet goes in, and all places are gone through from its home on.
func model(b int, keys []uint32) api.Table {
	n := 1
	for range b {
		n *= 2
	}
	t := api.Table{Bits: b, Cells: make([]uint32, n), Full: make([]bool, n)}
	for _, key := range once(keys) {
		home := homeOf(b, key)
		spots := make([]int, 0, n)
		for place := home; place < n; place++ {
			spots = append(spots, place)
		}
		for place := 0; place < home; place++ {
			spots = append(spots, place)
		}
		for _, place := range spots {
			if !t.Full[place] {
				t.Full[place], t.Cells[place] = true, key
				break
			}
		}
	}
	return t
}

// same: are two tables the same?
func same(a, b api.Table) bool {
	return a.Bits == b.Bits && slices.Equal(a.Cells, b.Cells) && slices.Equal(a.Full, b.Full)
}

// copyOf is a table of memory of its own.
func copyOf(t api.Table) api.Table {
	return api.Table{Bits: t.Bits, Cells: slices.Clone(t.Cells), Full: slices.Clone(t.Full)}
}

// made is a table that must have no error.
func made(t *testing.T, b int, keys []uint32) api.Table {
	t.Helper()
	x, e := Make(b, keys)
	if e != api.OK {
		t.Fatal("Make", b, keys, e)
	}
	return x
}

// holds: is it the table of the keys, and are they found, each of them, and none of the others?
func holds(t *testing.T, x api.Table, b int, keys, others []uint32) {
	t.Helper()
	if !same(x, model(b, keys)) || !Right(x) || !slices.Equal(Keys(x), once(keys)) {
		t.Fatal(b, keys, x, Right(x), Keys(x))
	}
	for _, key := range append(slices.Clone(keys), others...) {
		place, looks, ok := Find(x, key)
		wantedPlace, wantedLooks, wantedOk := lookFor(x, key)
		if place != wantedPlace || looks != wantedLooks || ok != wantedOk || ok != slices.Contains(keys, key) {
			t.Fatal(b, keys, key, place, looks, ok)
		}
	}
}

// lookFor is what Find answers, by going through all places from the home on.
func lookFor(x api.Table, key uint32) (int, int, bool) {
	n := len(x.Full)
	for far := range n {
		place := (homeOf(x.Bits, key) + far) % n
		if !x.Full[place] {
			return 0, far + 1, false
		}
		if x.Cells[place] == key {
			return place, far + 1, true
		}
	}
	return -1, -1, false
}

// wrong are tables that aren't those of their keys: some without places, some that were right but for one thing, some that are too full, some of other bits.
func wrong() []api.Table {
	l := []api.Table{{}, {Bits: 1}, {Bits: 3, Cells: make([]uint32, 8)}, {Bits: 3, Full: make([]bool, 8)}}
	right := model(3, []uint32{5, 0, 1})
	change := func(f func(x *api.Table)) {
		x := copyOf(right)
		f(&x)
		l = append(l, x)
	}
	for _, b := range append(slices.Clone(noBits), 1, 2, 4, 10) {
		change(func(x *api.Table) { x.Bits = b })
	}
	change(func(x *api.Table) { x.Cells = x.Cells[:7] })
	change(func(x *api.Table) { x.Full = x.Full[:7] })
	change(func(x *api.Table) { x.Cells, x.Full = x.Cells[:7], x.Full[:7] })
	change(func(x *api.Table) { x.Cells = append(x.Cells, 0) })
	change(func(x *api.Table) { x.Full = append(x.Full, false) })
	change(func(x *api.Table) { x.Cells, x.Full = append(x.Cells, 0), append(x.Full, false) })
	// An empty place that has something, the greater one ahead, away from home, past an empty place, one twice, the first one gone.
	change(func(x *api.Table) { x.Cells[2] = 9 })
	change(func(x *api.Table) { x.Cells[7] = math.MaxUint32 })
	change(func(x *api.Table) { x.Cells[0], x.Cells[1] = 5, 0 })
	change(func(x *api.Table) { x.Cells[4] = 3 })
	change(func(x *api.Table) {
		x.Full[4], x.Full[5] = false, true
		x.Cells[4], x.Cells[5] = 0, 1
	})
	change(func(x *api.Table) { x.Full[2], x.Cells[2] = true, 5 })
	change(func(x *api.Table) { x.Full[0] = false })
	// One more than there is room for, though each is where it would be.
	for b, room := range rooms {
		l = append(l, model(b+1, amongOf(5, room+1, 0)))
	}
	full := model(2, []uint32{0, 1, 3, 5})
	return append(l, full, model(0, []uint32{5}), model(11, []uint32{5, 6}), model(12, []uint32{5}))
}

// P12.1: Home, of keys that one can go through by hand.
func TestHomeByHand(t *testing.T) {
	for _, x := range []struct {
		b      int
		key    uint32
		wanted int
	}{
		{1, 0, 0}, {10, 0, 0}, {1, 1, 1}, {2, 1, 2}, {3, 1, 4}, {4, 1, 9}, {8, 1, 0x9E}, {10, 1, 0x9E3 >> 2},
		{3, 2, 1}, {3, 3, 6}, {3, 4, 3}, {3, 5, 0}, {3, 6, 5}, {3, 8, 7}, {4, 2, 3}, {8, 2, 0x3C}, {10, 65537, 95},
		{10, 65538, 728}, {10, 1 << 31, 512}, {1, 1 << 31, 1}, {10, math.MaxUint32, 391}, {3, math.MaxUint32, 3},
	} {
		if home := Home(x.b, x.key); home != x.wanted {
			t.Error(x, home)
		}
	}
}

// P12.1: Home, of many keys, and all numbers of bits: with a bit less it is half of it.
func TestHome(t *testing.T) {
	for _, key := range append(amongOf(1, 3000, 0), amongOf(2, 300, 100)...) {
		for b := 1; b <= 10; b++ {
			if home := Home(b, key); home != homeOf(b, key) || home < 0 || home >= 1<<b {
				t.Fatal(b, key, home)
			}
			if b > 1 && Home(b-1, key) != Home(b, key)/2 {
				t.Fatal(b, key)
			}
		}
	}
}

// P12.1: Home is -1, and Make has ErrArg and no table, of bits that none has; ahead of ErrFull.
func TestNoBits(t *testing.T) {
	for _, b := range noBits {
		for _, key := range []uint32{0, 1, 5, 1 << 31, math.MaxUint32} {
			if home := Home(b, key); home != -1 {
				t.Error(b, key, home)
			}
		}
		for _, n := range []int{0, 1, 768, 769, 5000} {
			if x, e := Make(b, amongOf(3, n, 0)); e != api.ErrArg || !same(x, api.Table{}) || x.Cells != nil || x.Full != nil {
				t.Error(b, n, e)
			}
		}
	}
}

// P12.1: Make, of tables that one can go through by hand.
func TestMakeByHand(t *testing.T) {
	for _, x := range []struct {
		b     int
		keys  []uint32
		cells []uint32
		full  []int
	}{
		{1, nil, []uint32{0, 0}, nil},
		{1, []uint32{0}, []uint32{0, 0}, []int{0}},
		{1, []uint32{5, 5}, []uint32{5, 0}, []int{0}},
		{1, []uint32{1}, []uint32{0, 1}, []int{1}},
		{2, []uint32{3, 2, 0}, []uint32{0, 2, 0, 3}, []int{0, 1, 3}},
		{2, []uint32{11, 3, 8}, []uint32{8, 11, 0, 3}, []int{3, 0, 1}},
		{2, []uint32{8, 11, 0}, []uint32{0, 11, 0, 8}, []int{0, 3, 1}},
		{3, []uint32{5, 0, 1, 5}, []uint32{0, 5, 0, 0, 1, 0, 0, 0}, []int{0, 1, 4}},
		{3, []uint32{13, 5, 0, 2}, []uint32{0, 2, 5, 13, 0, 0, 0, 0}, []int{0, 1, 2, 3}},
		{3, []uint32{21, 16, 8}, []uint32{16, 21, 0, 0, 0, 0, 0, 8}, []int{7, 0, 1}},
		{3, []uint32{21, 16, 8, 0, 2, 5}, []uint32{0, 2, 5, 16, 21, 0, 0, 8}, []int{0, 1, 2, 7, 3, 4}},
	} {
		full := make([]bool, len(x.cells))
		for _, place := range x.full {
			full[place] = true
		}
		made, e := Make(x.b, x.keys)
		if e != api.OK || !same(made, api.Table{Bits: x.b, Cells: x.cells, Full: full}) {
			t.Error(x, made, e)
		}
	}
}

// P12.2: of two keys of one home the lesser one is there, the other one behind it, whichever came first; behind the last place comes the first one.
func TestOneHome(t *testing.T) {
	for b := 2; b <= 10; b++ {
		n := 1 << b
		for _, home := range []int{0, 1, n / 2, n - 2, n - 1} {
			keys := ofHome(b, home, 2, 100)
			first := made(t, b, keys)
			second := made(t, b, []uint32{keys[1], keys[0]})
			if !same(first, second) || first.Cells[home] != keys[0] || first.Cells[(home+1)%n] != keys[1] || !first.Full[home] || !first.Full[(home+1)%n] {
				t.Error(b, home, keys)
			}
			for i, key := range keys {
				if place, looks, ok := Find(first, key); !ok || place != (home+i)%n || looks != 1+i {
					t.Error(b, home, key, place, looks, ok)
				}
			}
		}
	}
}

// P12.1, P12.2: Make, Right, Keys and Find, of all sets of a few keys, in small tables.
func TestAllSets(t *testing.T) {
	lists := [][]uint32{
		{0, 1, 2, 3, 4, 5, 6, 7, 8},
		append(ofHome(4, 15, 4, 0), ofHome(4, 0, 3, 0)...),
		{0, 1, 1 << 31, math.MaxUint32, math.MaxUint32 - 1, 0x10000, 0xffff, 0x10001},
	}
	for _, kinds := range lists {
		others := append(amongOf(4, 20, 0), kinds...)
		for mask := range 1 << len(kinds) {
			keys := subset(kinds, mask)
			for b := 1; b <= 5; b++ {
				x, e := Make(b, keys)
				if len(keys) > rooms[b-1] {
					if e != api.ErrFull || x.Cells != nil || x.Full != nil || x.Bits != 0 {
						t.Fatal(b, keys, e)
					}
					continue
				}
				if e != api.OK {
					t.Fatal(b, keys, e)
				}
				holds(t, x, b, keys, others)
			}
		}
	}
}

// P12.2: in which order keys came, and how often, says nothing.
func TestAllOrders(t *testing.T) {
	for _, keys := range [][]uint32{{0, 5, 1, 2, 8}, append(ofHome(3, 7, 4, 0), 0, 2), {9, 1, 17, 4, 3, 8}} {
		for _, order := range orders(keys) {
			holds(t, made(t, 3, order), 3, keys, nil)
			holds(t, made(t, 3, append(order, order[:3]...)), 3, keys, nil)
			x := made(t, 3, nil)
			for i, key := range order {
				y, e := Put(x, []uint32{key})
				if e != api.OK {
					t.Fatal(order, i, e)
				}
				x = y
				holds(t, x, 3, order[:i+1], order[i+1:])
			}
			for i, key := range order {
				y, e := Drop(x, []uint32{key})
				if e != api.OK {
					t.Fatal(order, i, e)
				}
				x = y
				holds(t, x, 3, order[i+1:], order[:i+1])
			}
		}
	}
}

// P12.1: just three quarters of the places are taken, each key counted once; one more is ErrFull, by Make and by Put.
func TestRoom(t *testing.T) {
	for i, room := range rooms {
		b := i + 1
		keys := once(amongOf(uint32(b), 3*room+9, 0))[:room]
		more := uint32(7)
		if slices.Contains(keys, more) {
			t.Fatal("to be another one")
		}
		full := made(t, b, slices.Concat(keys, keys, keys[:1]))
		holds(t, full, b, keys, []uint32{more, 0, math.MaxUint32})
		if x, e := Make(b, append(slices.Clone(keys), more)); e != api.ErrFull || x.Cells != nil || x.Full != nil || x.Bits != 0 {
			t.Error(b, e)
		}
		if x, e := Put(full, []uint32{more}); e != api.ErrFull || !same(x, full) {
			t.Error(b, e)
		}
		if x, e := Put(full, slices.Concat(keys, keys)); e != api.OK || !same(x, full) {
			t.Error(b, e)
		}
		fewer := made(t, b, keys[1:])
		if x, e := Put(fewer, []uint32{more, keys[0]}); e != api.ErrFull || !same(x, fewer) {
			t.Error(b, e)
		}
		if x, e := Put(fewer, keys[:1]); e != api.OK || !same(x, full) {
			t.Error(b, e)
		}
		x, e := Put(fewer, slices.Repeat([]uint32{more}, 2000))
		if e != api.OK {
			t.Fatal(b, e)
		}
		holds(t, x, b, append([]uint32{more}, keys[1:]...), keys[:1])
	}
}

// P12.1: Right is just of the tables of sets of keys, among all cells of few kinds.
func TestRightAmongAll(t *testing.T) {
	for b, kinds := range [][]uint32{1: {0, 1, 2, 3, 5}, 2: {0, 1, 8, 11}} {
		if b == 0 {
			continue
		}
		n, right := 1<<b, 0
		tables := 1
		for range n {
			tables *= 2 * len(kinds)
		}
		for number := range tables {
			x := api.Table{Bits: b}
			for rest := number; len(x.Cells) < n; rest /= 2 * len(kinds) {
				x.Cells = append(x.Cells, kinds[rest/2%len(kinds)])
				x.Full = append(x.Full, rest%2 == 1)
			}
			keys := Keys(x)
			wanted := len(keys) <= rooms[b-1] && same(x, model(b, keys))
			if Right(x) != wanted {
				t.Fatal(x, wanted)
			}
			if wanted {
				right++
			}
		}
		sets := 0
		for mask := range 1 << len(kinds) {
			if len(subset(kinds, mask)) <= rooms[b-1] {
				sets++
			}
		}
		if right != sets {
			t.Error(b, right, sets)
		}
	}
}

// P12.1: a table that isn't that of its keys is ErrArg for Put and Drop, as it was beside it, and nothing is found in it.
func TestWrong(t *testing.T) {
	for i, x := range wrong() {
		if Right(x) {
			t.Error(i, x)
		}
		for _, key := range []uint32{0, 1, 5, 9, math.MaxUint32} {
			if place, looks, ok := Find(x, key); ok || place != 0 || looks != 0 {
				t.Error(i, key, place, looks, ok)
			}
		}
		for _, n := range []int{0, 1, 2000} {
			keys, was := amongOf(6, n, 0), copyOf(x)
			y, e := Put(x, keys)
			if e != api.ErrArg || !same(x, was) || !same(y, was) {
				t.Error(i, n, e)
			}
			y, e = Drop(x, keys)
			if e != api.ErrArg || !same(x, was) || !same(y, was) {
				t.Error(i, n, e)
			}
		}
	}
}

// P12.1: Keys, of whatever table: of places of which Cells and Full tell, both; rising, each once.
func TestKeys(t *testing.T) {
	for _, x := range []struct {
		t      api.Table
		wanted []uint32
	}{
		{api.Table{}, nil},
		{api.Table{Bits: 3}, nil},
		{api.Table{Cells: []uint32{1, 2}}, nil},
		{api.Table{Full: []bool{true, true}}, nil},
		{api.Table{Cells: []uint32{7}, Full: []bool{true}}, []uint32{7}},
		{api.Table{Bits: -5, Cells: []uint32{0}, Full: []bool{true}}, []uint32{0}},
		{api.Table{Bits: 1, Cells: []uint32{7, 9}, Full: []bool{false, false}}, nil},
		{api.Table{Bits: 2, Cells: []uint32{7, 3, 5, 1}, Full: []bool{true, true, false, true}}, []uint32{1, 3, 7}},
		{api.Table{Bits: 2, Cells: []uint32{7, 3, 7, 3}, Full: []bool{true, true, true, true}}, []uint32{3, 7}},
		{api.Table{Bits: 2, Cells: []uint32{7, 3, 5, 1}, Full: []bool{true, true}}, []uint32{3, 7}},
		{api.Table{Bits: 2, Cells: []uint32{7, 3}, Full: []bool{true, true, true, true}}, []uint32{3, 7}},
		{api.Table{Bits: 99, Cells: []uint32{math.MaxUint32, 0, math.MaxUint32, 1 << 31}, Full: []bool{true, true, true, true, true}}, []uint32{0, 1 << 31, math.MaxUint32}},
	} {
		if keys := Keys(x.t); !slices.Equal(keys, x.wanted) {
			t.Error(x, keys)
		}
	}
	many := amongOf(7, 5000, 3000)
	x := api.Table{Cells: many, Full: slices.Repeat([]bool{true}, 4000)}
	if !slices.Equal(Keys(x), once(many[:4000])) {
		t.Error("of many")
	}
}

// P12.1: Find, in tables that one can go through by hand: how many places are looked at up to a key, or up to the first empty one.
func TestFindByHand(t *testing.T) {
	x := made(t, 3, []uint32{21, 16, 8, 0, 2, 5})
	for _, w := range []struct {
		key          uint32
		place, looks int
		ok           bool
	}{
		{0, 0, 1, true}, {2, 1, 1, true}, {5, 2, 3, true}, {8, 7, 1, true}, {16, 3, 5, true}, {21, 4, 6, true},
		{29, 0, 7, false}, {13, 0, 6, false}, {10, 0, 5, false}, {7, 0, 4, false}, {4, 0, 3, false}, {1, 0, 2, false},
		{6, 0, 1, false}, {3, 0, 1, false}, {math.MaxUint32, 0, 3, false}, {1 << 31, 0, 2, false},
	} {
		if place, looks, ok := Find(x, w.key); place != w.place || looks != w.looks || ok != w.ok {
			t.Error(w, place, looks, ok)
		}
	}
	empty := made(t, 1, nil)
	for _, key := range []uint32{0, 1, math.MaxUint32} {
		if place, looks, ok := Find(empty, key); place != 0 || looks != 1 || ok {
			t.Error(key, place, looks, ok)
		}
	}
}

// P12.1, P12.2: Put and Drop, of all sets of a few keys by all others.
func TestPutAndDropAllSets(t *testing.T) {
	kinds := append(ofHome(3, 7, 3, 0), 0, 1, 5)
	for mask := range 1 << len(kinds) {
		keys := subset(kinds, mask)
		x := made(t, 3, keys)
		for other := range 1 << len(kinds) {
			l := subset(kinds, other)
			slices.Reverse(l)
			y, e := Put(x, append(l, l...))
			if e != api.OK {
				t.Fatal(keys, l, e)
			}
			holds(t, y, 3, slices.Concat(keys, l), nil)
			y, e = Drop(x, append(l, l...))
			if e != api.OK {
				t.Fatal(keys, l, e)
			}
			holds(t, y, 3, subset(kinds, mask&^other), l)
		}
	}
}

// P12.1, P12.2: what is there, whatever came and went, is what is there of the set; what is refused changes nothing.
func TestComesAndGoes(t *testing.T) {
	for b := 1; b <= 10; b++ {
		room := rooms[b-1]
		x, set := made(t, b, nil), map[uint32]int{}
		refused := 0
		for round := range 60 {
			keys := amongOf(uint32(100*b+round), 1+round*room/60, uint32(3*room))
			if round%3 == 2 {
				y, e := Drop(x, keys)
				if e != api.OK {
					t.Fatal(b, round, e)
				}
				x = y
				for _, key := range keys {
					delete(set, key)
				}
			} else {
				x, refused = putAll(t, x, set, keys, room, refused)
			}
			var there []uint32
			for key := range set {
				there = append(there, key)
			}
			holds(t, x, b, there, keys)
		}
		if refused == 0 {
			t.Error("none was refused", b)
		}
	}
}

// putAll puts keys into a table, and into the set, if there is room; else it counts one more that was refused.
func putAll(t *testing.T, x api.Table, set map[uint32]int, keys []uint32, room, refused int) (api.Table, int) {
	t.Helper()
	wanted := len(set)
	for _, key := range once(keys) {
		if set[key] == 0 {
			wanted++
		}
	}
	y, e := Put(x, keys)
	if wanted > room {
		if e != api.ErrFull || !same(x, y) {
			t.Fatal(x.Bits, wanted, e)
		}
		return y, refused + 1
	}
	if e != api.OK {
		t.Fatal(x.Bits, wanted, e)
	}
	for _, key := range keys {
		set[key] = 1
	}
	return y, refused
}

// spoil changes all that a list has, its spare room too.
func spoil[T any](l []T, by T) {
	l = l[:cap(l)]
	for i := range l {
		l[i] = by
	}
}

// P12.1: what is handed in is not changed, nor its spare room, and what is answered shares nothing with it, beside errors either.
func TestLeavesArguments(t *testing.T) {
	tables := append(wrong(), model(3, []uint32{21, 16, 8, 0, 2, 5}), model(3, []uint32{8}), model(10, amongOf(8, 700, 0)))
	for i, was := range tables {
		cells, full := append(slices.Clone(was.Cells), 77, 78), append(slices.Clone(was.Full), true, false)
		wasCells, wasFull := slices.Clone(cells), slices.Clone(full)
		wasKeys := append(amongOf(9, 200, 300), 8, 8, 0, 77, 78)
		keys := slices.Clone(wasKeys)
		for _, n := range []int{0, 1, 4, len(keys) - 2} {
			x := api.Table{Bits: was.Bits, Cells: cells[:len(was.Cells)], Full: full[:len(was.Full)]}
			put, _ := Put(x, keys[:n])
			dropped, _ := Drop(x, keys[:n])
			anew, _ := Make(8, keys[:n])
			told := Keys(x)
			Find(x, 8)
			Right(x)
			for _, answered := range []api.Table{put, dropped, anew} {
				spoil(answered.Cells, 5555)
				spoil(answered.Full, i%2 == 0)
			}
			spoil(told, 5555)
			if !slices.Equal(cells, wasCells) || !slices.Equal(full, wasFull) || !slices.Equal(keys, wasKeys) {
				t.Fatal(i, n)
			}
		}
	}
}

// P12.1: a call hangs on its arguments alone: asked again, behind others, it answers the same.
func TestAskedAgain(t *testing.T) {
	keys := amongOf(10, 90, 0)
	first := made(t, 7, keys)
	clear(first.Cells)
	clear(first.Full)
	for b := 1; b <= 10; b++ {
		Make(b, amongOf(11, 50, 0))
		Put(model(b, nil), keys)
		Drop(model(b, keys[:1]), keys)
	}
	holds(t, made(t, 7, keys), 7, keys, amongOf(11, 50, 0))
}
