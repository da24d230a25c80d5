package bits_test

import (
	"math"
	"slices"
	"testing"

	"minuterie/api"
	"minuterie/bits"
)

const never = uint64(api.Never)

// numbers are those at which something turns over, and some without a rule.
func numbers() []uint64 {
	l := []uint64{0, never, 0x0123456789abcdef, 0xfedcba9876543210, 0xdeadbeefcafef00d}
	for at := range 64 {
		l = append(l, 1<<at, 1<<at-1, 1<<at+1, never-1<<at)
	}
	n := uint64(1)
	for range 40 {
		n = n*6364136223846793005 + 1442695040888963407
		l = append(l, n, n>>(n&63))
	}
	return l
}

func words() []uint32 {
	var l []uint32
	for _, n := range numbers() {
		l = append(l, uint32(n), uint32(n>>32))
	}
	slices.Sort(l)
	return slices.Compact(l)
}

// places are levels, bits, widths, from the wrong ones below to those above.
func places() []int {
	l := []int{math.MinInt, math.MinInt + 1, math.MinInt32, -64, math.MaxInt32, math.MaxInt - 1, math.MaxInt}
	for i := -9; i <= 70; i++ {
		l = append(l, i)
	}
	return l
}

func isSet(n uint64, place int) bool { return n/pow2(place)%2 == 1 }

func pow2(n int) uint64 {
	p := uint64(1)
	for range n {
		p += p
	}
	return p
}

// fromBits is the number of the bits for which set is true.
func fromBits(count int, set func(place int) bool) uint64 {
	n := uint64(0)
	for place := range count {
		if set(place) {
			n += pow2(place)
		}
	}
	return n
}

// P1.1: Lo, Hi, Join.
func TestHalves(t *testing.T) {
	for _, x := range []struct {
		n      uint64
		hi, lo uint32
	}{
		{0, 0, 0}, {5, 0, 5}, {4294967301, 1, 5}, {1<<32 - 1, 0, 1<<32 - 1}, {1 << 32, 1, 0},
		{never, 1<<32 - 1, 1<<32 - 1}, {0xfedcba9876543210, 0xfedcba98, 0x76543210}, {1 << 63, 1 << 31, 0},
	} {
		if bits.Lo(x.n) != x.lo || bits.Hi(x.n) != x.hi || bits.Join(x.hi, x.lo) != x.n {
			t.Error(x, bits.Lo(x.n), bits.Hi(x.n), bits.Join(x.hi, x.lo))
		}
	}
	for _, n := range numbers() {
		if uint64(bits.Lo(n)) != n%(1<<32) || uint64(bits.Hi(n)) != n/(1<<32) {
			t.Error(n, bits.Lo(n), bits.Hi(n))
		}
	}
}

// P1.1: Add, and where it reaches Never.
func TestAdd(t *testing.T) {
	for _, x := range []struct{ a, b, sum uint64 }{
		{0, 0, 0}, {2, 3, 5}, {1<<32 - 1, 1, 1 << 32}, {never, 0, never}, {never - 1, 0, never - 1},
		{never - 2, 1, never - 1}, {never - 1, 1, never}, {never - 1, 2, never}, {never, 1, never},
		{1 << 63, 1<<63 - 1, never}, {1 << 63, 1 << 63, never}, {1 << 63, 1<<63 + 7, never}, {never, never, never},
	} {
		if bits.Add(x.a, x.b) != x.sum || bits.Add(x.b, x.a) != x.sum {
			t.Error(x, bits.Add(x.a, x.b), bits.Add(x.b, x.a))
		}
	}
	for _, a := range numbers() {
		for _, b := range numbers() {
			want := never
			if b <= never-a {
				want = a + b
			}
			if bits.Add(a, b) != want {
				t.Fatal(a, b, bits.Add(a, b))
			}
		}
	}
}

// P1.1: Sub, and where it is 0.
func TestSub(t *testing.T) {
	for _, x := range []struct{ a, b, left uint64 }{
		{0, 0, 0}, {3, 2, 1}, {2, 3, 0}, {2, 2, 0}, {1 << 32, 1, 1<<32 - 1}, {0, 1, 0}, {0, never, 0},
		{never, 0, never}, {never, never, 0}, {never, never - 1, 1}, {never - 1, never, 0}, {1<<63 - 1, 1 << 63, 0},
	} {
		if bits.Sub(x.a, x.b) != x.left {
			t.Error(x, bits.Sub(x.a, x.b))
		}
	}
	for _, a := range numbers() {
		for _, b := range numbers() {
			if d := bits.Sub(a, b); a >= b && d+b != a || a >= b && d > a || a < b && d != 0 {
				t.Fatal(a, b, d)
			}
		}
	}
}

// P1.1: Mask, of n below 0, 64 and above too.
func TestMask(t *testing.T) {
	for _, x := range []struct {
		n    int
		mask uint64
	}{
		{0, 0}, {1, 1}, {5, 31}, {31, 1<<31 - 1}, {32, 1<<32 - 1}, {33, 1<<33 - 1}, {63, 1<<63 - 1}, {64, never},
		{65, never}, {128, never}, {math.MaxInt, never}, {-1, 0}, {-64, 0}, {-63, 0}, {math.MinInt, 0},
	} {
		if bits.Mask(x.n) != x.mask {
			t.Error(x, bits.Mask(x.n))
		}
	}
	for _, n := range places() {
		if want := fromBits(64, func(place int) bool { return place < n }); bits.Mask(n) != want {
			t.Error(n, bits.Mask(n), want)
		}
	}
}

// P1.1: Signed.
func TestSigned(t *testing.T) {
	for _, x := range []struct {
		n      uint32
		signed int
	}{
		{0, 0}, {5, 5}, {1<<31 - 1, 1<<31 - 1}, {1 << 31, -1 << 31}, {1<<31 + 1, -1<<31 + 1}, {4294967295, -1}, {4294967294, -2},
	} {
		if bits.Signed(x.n) != x.signed {
			t.Error(x, bits.Signed(x.n))
		}
	}
	for _, n := range words() {
		want := int64(n)
		if n >= 1<<31 {
			want -= 1 << 32
		}
		if int64(bits.Signed(n)) != want {
			t.Error(n, bits.Signed(n))
		}
	}
}

// P1.2: Digit, of levels below 0 and from 8 on too.
func TestDigit(t *testing.T) {
	for _, x := range []struct {
		n     uint64
		level int
		digit int
	}{
		{4096, 2, 1}, {4096, 1, 0}, {4096, 3, 0}, {63, 0, 63}, {64, 0, 0}, {64, 1, 1}, {4095, 1, 63}, {4095, 2, 0},
		{1 << 47, 7, 32}, {1<<48 - 1, 7, 63}, {1 << 48, 7, 0}, {1 << 48, 8, 1}, {63 << 48, 8, 63}, {1 << 54, 8, 0}, {65 << 48, 8, 1},
		{1 << 48, 9, 1}, {1 << 54, 9, 0}, {1 << 60, 10, 0}, {never, 8, 63}, {never, 11, 63}, {1 << 48, math.MaxInt, 1}, {1 << 48, math.MaxInt/6 + 1, 1},
		{5, -1, 0}, {never, -1, 0}, {never, -8, 0}, {never, math.MinInt, 0}, {never, math.MinInt / 6, 0},
	} {
		if bits.Digit(x.n, x.level) != x.digit {
			t.Error(x, bits.Digit(x.n, x.level))
		}
	}
	for _, n := range numbers() {
		back := uint64(0)
		for level := range api.Levels {
			d := bits.Digit(n, level)
			if d < 0 || d >= api.Slots {
				t.Fatal(n, level, d)
			}
			back += uint64(d) * pow2(api.Bits*level)
		}
		if back != n%pow2(48) {
			t.Error(n, back)
		}
		for _, level := range places() {
			if d := bits.Digit(n, level); level < 0 && d != 0 || level >= api.Levels && uint64(d) != n/pow2(48)%64 {
				t.Error(n, level, d)
			}
		}
	}
}

// P1.2: With, of digits beyond 63 and of wrong levels too.
func TestWith(t *testing.T) {
	for _, x := range []struct {
		n            uint64
		level, digit int
		want         uint64
	}{
		{0, 0, 0, 0}, {4095, 1, 2, 128}, {1<<50 | 4095, 0, 1, 1<<50 | 4033}, {4095, 0, 0, 4032}, {4095, 1, 0, 0}, {never, 7, 0, never - (1<<48 - 1)},
		{1<<48 | 5, 7, 63, 1<<48 | 63<<42}, {never, 7, 63, never - (1<<42 - 1)}, {0, 7, 1, 1 << 42},
		{4095, 1, 64, 0}, {4095, 1, 65, 64}, {4095, 1, 127, 63 << 6}, {0, 0, 1 << 40, 0}, {0, 2, -1, 63 << 12}, {0, 0, -63, 1}, {0, 7, math.MaxInt, 63 << 42}, {9, 0, math.MinInt, 0},
		{9, 8, 1, 9}, {9, -1, 1, 9}, {never, 8, 0, never}, {never, 10, 0, never}, {never, -1, 0, never}, {never, math.MaxInt, 0, never}, {never, math.MinInt, 0, never},
	} {
		if bits.With(x.n, x.level, x.digit) != x.want {
			t.Error(x, bits.With(x.n, x.level, x.digit))
		}
	}
	digits := []int{math.MinInt, -65, -64, -1, 0, 1, 31, 32, 63, 64, 65, 4095, math.MaxInt}
	for _, n := range numbers() {
		for _, level := range places() {
			for _, digit := range digits {
				checkWith(t, n, level, digit)
			}
		}
	}
}

func checkWith(t *testing.T, n uint64, level, digit int) {
	t.Helper()
	got, want := bits.With(n, level, digit), n
	if level >= 0 && level < api.Levels {
		low := uint64(digit) % 64
		want = fromBits(64, func(place int) bool {
			switch at := place / api.Bits; {
			case at > level || place >= 48:
				return isSet(n, place)
			case at == level:
				return isSet(low, place%api.Bits)
			}
			return false
		})
	}
	if got != want {
		t.Error(n, level, digit, got, want)
	}
}

// P1.2: Top.
func TestTop(t *testing.T) {
	for _, x := range []struct {
		a, b uint64
		top  int
	}{
		{5, 5, -1}, {0, 0, -1}, {never, never, -1}, {5, 6, 0}, {0, 63, 0}, {63, 64, 1}, {64, 65, 0}, {64, 128, 1}, {0, 4095, 1}, {0, 4096, 2}, {4095, 4096, 2},
		{1<<42 - 1, 1 << 42, 7}, {1<<42 - 1, 0, 6}, {1 << 47, 0, 7}, {1<<48 - 1, 0, 7}, {1<<48 - 1, 1 << 48, 8}, {1 << 48, 0, 8}, {1 << 54, 0, 8}, {1 << 63, 0, 8}, {never, 0, 8},
		{1 << 54, 1<<54 | 1, 0}, {1<<63 | 64, 1<<63 | 4096, 2}, {1<<63 | 1<<47, 1 << 63, 7},
	} {
		if bits.Top(x.a, x.b) != x.top || bits.Top(x.b, x.a) != x.top {
			t.Error(x, bits.Top(x.a, x.b), bits.Top(x.b, x.a))
		}
	}
	for place := range 64 {
		want := min(place/api.Bits, api.Levels)
		if top := bits.Top(0, pow2(place)); top != want {
			t.Error(place, top, want)
		}
	}
}

// P1.3: First, of a from below 0 and above 63 too.
func TestFirst(t *testing.T) {
	for _, x := range []struct {
		word  uint64
		from  int
		first int
	}{
		{9, 0, 0}, {9, 1, 3}, {9, 3, 3}, {9, 4, -1}, {9, -5, 0}, {8, -1, 3}, {0, 0, -1}, {0, -1, -1}, {1 << 63, 0, 63}, {1 << 63, 63, 63},
		{1 << 63, 64, -1}, {never, 64, -1}, {never, 65, -1}, {never, 128, -1}, {never, math.MaxInt, -1}, {never, math.MinInt, 0}, {never, 63, 63}, {never, 40, 40}, {1 << 32, 31, 32}, {1 << 31, 32, -1},
	} {
		if bits.First(x.word, x.from) != x.first {
			t.Error(x, bits.First(x.word, x.from))
		}
	}
	for _, word := range numbers() {
		for _, from := range places() {
			want := -1
			for place := 63; place >= 0 && place >= from; place-- {
				if isSet(word, place) {
					want = place
				}
			}
			if bits.First(word, from) != want {
				t.Error(word, from, bits.First(word, from), want)
			}
		}
	}
}

// P1.3: Field, of a low outside 0 to 31 and of wrong widths too.
func TestField(t *testing.T) {
	for _, x := range []struct {
		n          uint32
		low, width int
		field      uint32
	}{
		{0xabcd, 4, 8, 0xbc}, {0xabcd, 0, 4, 0xd}, {0xabcd, 0, 32, 0xabcd}, {0xabcd, 0, 40, 0xabcd}, {0xffffffff, 0, 31, 0x7fffffff},
		{0x80000000, 31, 1, 1}, {0x80000000, 31, 9, 1}, {0xffffffff, 28, 64, 15}, {0xffffffff, 28, math.MaxInt, 15}, {0xffffffff, 28, 4, 15}, {0xffffffff, 28, 3, 7},
		{7, 0, 0, 0}, {7, 0, -1, 0}, {7, 0, math.MinInt, 0}, {7, 32, 1, 0}, {0xffffffff, 32, 64, 0}, {0xffffffff, 64, 1, 0}, {0xffffffff, math.MaxInt, math.MaxInt, 0}, {7, -1, 3, 0}, {0xffffffff, math.MinInt, 9, 0},
	} {
		if bits.Field(x.n, x.low, x.width) != x.field {
			t.Error(x, bits.Field(x.n, x.low, x.width))
		}
	}
}

// P1.3: Put, where Field is always 0 too.
func TestPut(t *testing.T) {
	for _, x := range []struct {
		n          uint32
		low, width int
		v, want    uint32
	}{
		{0xabcd, 4, 8, 0xf12, 0xa12d}, {0xabcd, 4, 8, 0, 0xa00d}, {0xffffffff, 8, 8, 0x1ab, 0xffffabff}, {0, 0, 32, 0xffffffff, 0xffffffff}, {0, 0, 40, 0xffffffff, 0xffffffff}, {0xffffffff, 0, math.MaxInt, 5, 5},
		{1, 31, 4, 3, 0x80000001}, {1, 31, 4, 2, 1}, {0x80000001, 31, 1, 0, 1}, {0, 28, 9, 0xff, 0xf0000000},
		{1, 32, 4, 3, 1}, {1, -1, 4, 3, 1}, {1, 0, 0, 3, 1}, {1, 0, -2, 0, 1}, {1, 0, math.MinInt, 0, 1}, {0xffffffff, 64, 8, 0, 0xffffffff}, {0xffffffff, math.MaxInt, 8, 0, 0xffffffff}, {0xffffffff, math.MinInt, 8, 0, 0xffffffff},
	} {
		if bits.Put(x.n, x.low, x.width, x.v) != x.want {
			t.Error(x, bits.Put(x.n, x.low, x.width, x.v))
		}
	}
}

// P1.3: Field and Put, bit by bit.
func TestFieldAndPutByBits(t *testing.T) {
	values := []uint32{0, 1, 0xffffffff, 0x80000000, 0x7fffffff, 0xdeadbeef, 0x55555555, 0xaaaaaaaa}
	for _, n := range values {
		for _, low := range places() {
			for _, width := range places() {
				checkField(t, n, low, width)
				for _, v := range values {
					checkPut(t, n, low, width, v)
				}
			}
		}
	}
}

func right(low, width int) bool { return low >= 0 && low <= 31 && width >= 1 }

func checkField(t *testing.T, n uint32, low, width int) {
	t.Helper()
	want := fromBits(32, func(place int) bool {
		return right(low, width) && place < width && place+low < 32 && isSet(uint64(n), place+low)
	})
	if got := bits.Field(n, low, width); uint64(got) != want {
		t.Error(n, low, width, got, want)
	}
}

func checkPut(t *testing.T, n uint32, low, width int, v uint32) {
	t.Helper()
	want := fromBits(32, func(place int) bool {
		if right(low, width) && place >= low && place-low < width {
			return isSet(uint64(v), place-low)
		}
		return isSet(uint64(n), place)
	})
	if got := bits.Put(n, low, width, v); uint64(got) != want {
		t.Error(n, low, width, v, got, want)
	}
}

// P1.4: Join of Hi and Lo is the number.
func TestJoinOfHalves(t *testing.T) {
	for _, n := range numbers() {
		if bits.Join(bits.Hi(n), bits.Lo(n)) != n {
			t.Error(n)
		}
	}
}

// P1.4: what two numbers of a top level have.
func TestTopAndDigits(t *testing.T) {
	for _, a := range numbers() {
		for _, b := range numbers() {
			checkTop(t, a, b)
		}
	}
}

func checkTop(t *testing.T, a, b uint64) {
	t.Helper()
	top := bits.Top(a, b)
	if top < -1 || top > api.Levels || (top == -1) != (a == b) || (top == api.Levels) != (a/pow2(48) != b/pow2(48)) {
		t.Fatal(a, b, top)
	}
	for level := top + 1; level < api.Levels; level++ {
		if bits.Digit(a, level) != bits.Digit(b, level) {
			t.Error(a, b, top, level)
		}
	}
	if top >= 0 && top < api.Levels {
		x, y := bits.Digit(a, top), bits.Digit(b, top)
		if x == y || (a > b) != (x > y) {
			t.Error(a, b, top, x, y)
		}
	}
}

// wrong calls everything with what is at the ends, and is all answers as text.
func wrong() []uint64 {
	var l []uint64
	tell := func(n ...uint64) { l = append(l, n...) }
	ends := places()
	for _, n := range []uint64{0, 1, 1 << 47, 1 << 48, 1 << 63, never} {
		w := uint32(n)
		tell(uint64(bits.Lo(n)), uint64(bits.Hi(n)), bits.Join(w, w), bits.Add(n, n), bits.Sub(1, n), uint64(bits.Top(n, 1)), uint64(bits.Signed(w)))
		for _, i := range ends {
			tell(uint64(bits.Digit(n, i)), uint64(bits.First(n, i)), bits.Mask(i))
			for _, j := range ends {
				tell(bits.With(n, i, j), uint64(bits.Field(w, i, j)), uint64(bits.Put(w, i, j, ^w)))
			}
		}
	}
	return l
}

// P1, P2: no call panics, and all answer the same again.
func TestEveryCallEndsAndAnswersTheSame(t *testing.T) {
	if !slices.Equal(wrong(), wrong()) {
		t.Error("the same calls had other answers")
	}
}
