package coin

import (
	"math"
	"slices"
	"testing"
)

// words are those that have something at an edge, and some without a rule.
func words() []uint32 {
	l := []uint32{0, 1, 2, 3, 0x7fffffff, 0x80000000, 0x80000001, 0xaaaaaaaa, 0x55555555, 0xfffffffe, 0xffffffff, 0xabcd1234}
	for i := range 32 {
		l = append(l, 1<<i, 1<<i-1, 3<<i)
	}
	x := uint32(12345)
	for range 50 {
		x = x*1664525 + 1013904223
		l = append(l, x)
	}
	return l
}

// bit is a word's i-th one; 0 above 31.
func bit(word uint32, i int) uint64 {
	if i > 31 {
		return 0
	}
	return uint64(word) / (uint64(1) << i) % 2
}

// P1.1: At.
func TestAt(t *testing.T) {
	script := []uint32{7, 8, 9}
	for _, x := range []struct {
		script []uint32
		i      int
		want   uint32
	}{
		{script, 0, 7}, {script, 1, 8}, {script, 2, 9},
		{script, 3, 7}, {script, 4, 8}, {script, 5, 9}, {script, 300, 7},
		{script, math.MaxInt, script[math.MaxInt%3]},
		{script, -1, 0}, {script, -3, 0}, {script, math.MinInt, 0},
		{[]uint32{5}, 0, 5}, {[]uint32{5}, 1, 5}, {[]uint32{5}, math.MaxInt, 5},
		{nil, 0, 0}, {nil, 3, 0}, {nil, -1, 0}, {[]uint32{}, 0, 0}, {[]uint32{}, 7, 0},
	} {
		if w := At(x.script, x.i); w != x.want {
			t.Errorf("At(%v, %d): %d, not %d", x.script, x.i, w, x.want)
		}
	}
}

// P1.1: the script that is handed to At stays as it is, and what lies behind its end is not of it.
func TestAtLeavesScript(t *testing.T) {
	room := []uint32{1, 2, 3, 4}
	for i := -2; i < 9; i++ {
		if w := At(room[:2], i); i >= 0 && w != room[i%2] {
			t.Error(i, w)
		}
	}
	if !slices.Equal(room, []uint32{1, 2, 3, 4}) {
		t.Error(room)
	}
}

// P1.1: Height.
func TestHeight(t *testing.T) {
	for _, x := range []struct {
		word uint32
		want int
	}{
		{1, 1}, {2, 2}, {4, 3}, {8, 4}, {16, 5}, {32, 6}, {64, 7}, {128, 8},
		{256, 8}, {512, 8}, {0x80000000, 8}, {0, 8},
		{3, 1}, {12, 3}, {96, 6}, {192, 7}, {384, 8}, {0xffffffff, 1}, {0xfffffff8, 4},
	} {
		if h := Height(x.word); h != x.want {
			t.Errorf("Height(%#x): %d, not %d", x.word, h, x.want)
		}
	}
}

// P1.1: Height, held against bits that are counted one by one.
func TestHeightOfAll(t *testing.T) {
	for _, w := range words() {
		want := 1
		for want < 8 && bit(w, want-1) == 0 {
			want++
		}
		if h := Height(w); h != want {
			t.Errorf("Height(%#x): %d, not %d", w, h, want)
		}
	}
}

// P1.1: Bits.
func TestBits(t *testing.T) {
	for _, x := range []struct {
		word    uint32
		from, n uint8
		want    uint32
	}{
		{0xabcd1234, 0, 32, 0xabcd1234}, {0xabcd1234, 0, 4, 4}, {0xabcd1234, 4, 8, 0x23},
		{0xabcd1234, 28, 4, 0xa}, {0xabcd1234, 31, 1, 1}, {0xabcd1234, 0, 31, 0x2bcd1234},
		{0xabcd1234, 28, 8, 0xa}, {0xabcd1234, 16, 32, 0xabcd}, {0xabcd1234, 31, 32, 1},
		{0xffffffff, 0, 0, 0}, {0xffffffff, 31, 0, 0}, {0xffffffff, 255, 0, 0},
		{0xffffffff, 32, 1, 0}, {0xffffffff, 33, 32, 0}, {0xffffffff, 255, 255, 0},
		{0xffffffff, 0, 33, 0xffffffff}, {0xffffffff, 1, 255, 0x7fffffff}, {0, 0, 32, 0},
	} {
		if b := Bits(x.word, x.from, x.n); b != x.want {
			t.Errorf("Bits(%#x, %d, %d): %#x, not %#x", x.word, x.from, x.n, b, x.want)
		}
	}
}

// P1.1: Bits, at all places and numbers of them, held against bits that are put together one by one.
func TestBitsOfAll(t *testing.T) {
	for _, w := range words() {
		for from := range 256 {
			want := uint64(0)
			for n := range 256 {
				if b := Bits(w, uint8(from), uint8(n)); uint64(b) != want {
					t.Fatalf("Bits(%#x, %d, %d): %#x, not %#x", w, from, n, b, want)
				}
				if n < 32 {
					want += bit(w, from+n) << n
				}
			}
		}
	}
}

// P1.1: Signed.
func TestSigned(t *testing.T) {
	for _, x := range []struct {
		word uint32
		n    uint8
		want int32
	}{
		{255, 8, -1}, {127, 8, 127}, {128, 8, -128}, {0x180, 8, -128}, {0x17f, 8, 127}, {0x180, 9, -128}, {0x100, 9, -256},
		{0, 0, 0}, {1, 0, 0}, {0xffffffff, 0, 0},
		{0, 1, 0}, {1, 1, -1}, {2, 1, 0}, {3, 1, -1},
		{0x40000000, 31, -0x40000000}, {0x80000000, 31, 0}, {0x3fffffff, 31, 0x3fffffff},
		{0x7fffffff, 32, math.MaxInt32}, {0x80000000, 32, math.MinInt32}, {0xffffffff, 32, -1},
		{0x80000000, 33, math.MinInt32}, {0x80000000, 255, math.MinInt32}, {5, 64, 5}, {0xfffffffe, 200, -2},
	} {
		if s := Signed(x.word, x.n); s != x.want {
			t.Errorf("Signed(%#x, %d): %d, not %d", x.word, x.n, s, x.want)
		}
	}
}

// P1.1: Signed, of all numbers of bits, each of which counts what it is worth, the highest one below 0.
func TestSignedOfAll(t *testing.T) {
	for _, w := range words() {
		for n := range 256 {
			want, last := int64(0), min(n, 32)-1
			for i := 0; i < last; i++ {
				want += int64(bit(w, i)) << i
			}
			if last >= 0 {
				want -= int64(bit(w, last)) << last
			}
			if s := Signed(w, uint8(n)); int64(s) != want {
				t.Fatalf("Signed(%#x, %d): %d, not %d", w, n, s, want)
			}
		}
	}
}

// P1.1: Mix.
func TestMix(t *testing.T) {
	for _, x := range []struct{ a, b, want uint32 }{
		{0, 0, 0}, {0, 1, 0x9e3779b1}, {0, 2, 0x3c6ef362},
		{1, 0, 0xc6ef3620}, {1, 32, 0}, {32, 1, 0x7c1e3db1}, {0x08000000, 0, 0x9e3779b1}, {0x08000000, 1, 0},
		{0x80000000, 16, 0}, {0x80000000, 0, 0xe3779b10}, {0, 0xffffffff, 0x61c8864f}, {0xffffffff, 0xffffffff, 0},
	} {
		if m := Mix(x.a, x.b); m != x.want {
			t.Errorf("Mix(%#x, %#x): %#x, not %#x", x.a, x.b, m, x.want)
		}
	}
}

// P1.1: Mix, held against the same in greater numbers, whose upper half is cut off behind each step.
func TestMixOfAll(t *testing.T) {
	for _, a := range words() {
		for _, b := range words() {
			round := uint64(a)*32%(1<<32) + uint64(a)/(1<<27)
			want := (round ^ uint64(b)) * 0x9e3779b1 % (1 << 32)
			if m := Mix(a, b); uint64(m) != want {
				t.Fatalf("Mix(%#x, %#x): %#x, not %#x", a, b, m, want)
			}
		}
	}
}

// P1.1: Halves and Whole.
func TestHalves(t *testing.T) {
	for _, x := range []struct {
		whole     uint64
		high, low uint32
	}{
		{0, 0, 0}, {1, 0, 1}, {math.MaxUint32, 0, math.MaxUint32}, {1 << 32, 1, 0}, {1<<32 + 1, 1, 1},
		{0x0123456789abcdef, 0x01234567, 0x89abcdef}, {1<<63 | 5, 1 << 31, 5},
		{math.MaxUint64, math.MaxUint32, math.MaxUint32}, {0xffffffff00000000, math.MaxUint32, 0},
	} {
		if h, l := Halves(x.whole); h != x.high || l != x.low {
			t.Errorf("Halves(%#x): %#x and %#x", x.whole, h, l)
		}
		if w := Whole(x.high, x.low); w != x.whole {
			t.Errorf("Whole(%#x, %#x): %#x", x.high, x.low, w)
		}
	}
}

// P1.1: Pick.
func TestPick(t *testing.T) {
	for _, x := range []struct {
		word    uint32
		n, want int
	}{
		{9, 4, 1}, {8, 4, 0}, {3, 4, 3}, {9, 1, 0}, {0, 1, 0}, {0, 7, 0}, {6, 7, 6}, {7, 7, 0},
		{9, 0, 0}, {9, -1, 0}, {9, -4, 0}, {0xffffffff, math.MinInt, 0},
		{0xffffffff, 16, 15}, {0xffffffff, 10, 5}, {0x80000000, 3, 2}, {0x80000000, 0x7fffffff, 1},
		{0x7ffffffe, 0x7fffffff, 0x7ffffffe}, {12, math.MaxInt, 12},
	} {
		if p := Pick(x.word, x.n); p != x.want {
			t.Errorf("Pick(%#x, %d): %d, not %d", x.word, x.n, p, x.want)
		}
	}
}

// P1.1: what Pick answers is below n, and a whole number of n less than the word.
func TestPickOfAll(t *testing.T) {
	for _, w := range words() {
		for n := 1; n < 200; n++ {
			p := Pick(w, n)
			if p < 0 || p >= n || (int64(w)-int64(p))%int64(n) != 0 {
				t.Fatalf("Pick(%#x, %d): %d", w, n, p)
			}
		}
	}
}

// P1.2: halves, put together, are the whole; and the other way round.
func TestHalvesThereAndBack(t *testing.T) {
	for _, a := range words() {
		for _, b := range words() {
			x := Whole(a, b)
			if h, l := Halves(x); h != a || l != b {
				t.Fatalf("halves of the whole of %#x and %#x: %#x and %#x", a, b, h, l)
			}
			x = x*0x9e3779b97f4a7c15 + 1
			if w := Whole(Halves(x)); w != x {
				t.Fatalf("the whole of the halves of %#x: %#x", x, w)
			}
		}
	}
}

// P1.2: bits of two parts that touch are those of both as one part; of two parts of 32 bits, the word.
func TestBitsThereAndBack(t *testing.T) {
	for _, w := range words() {
		for from := range uint8(40) {
			for n := range uint8(33) {
				for m := range 33 - n {
					both := Bits(w, from+n, m)<<n | Bits(w, from, n)
					if want := Bits(w, from, n+m); both != want {
						t.Fatalf("%#x from %d, %d and %d bits: %#x, not %#x", w, from, n, m, both, want)
					}
				}
			}
		}
		for n := range uint8(33) {
			if both := Bits(w, n, 32-n)<<n | Bits(w, 0, n); both != w {
				t.Fatalf("%#x parted at %d: %#x", w, n, both)
			}
		}
	}
}
