package fix

import (
	"math"
	"math/big"
	"math/rand"
	"testing"

	"skirmish/api"
)

const one = 1 << 32

// numbers answers those around every power of two, and at both ends, of both signs.
func numbers() []int64 {
	out := []int64{0, math.MaxInt64, math.MaxInt64 - 1, math.MinInt64, math.MinInt64 + 1, 3 * one, -3 * one, 1431655765, 3037000499, 3037000500}
	for i := range 63 {
		for _, n := range []int64{1<<i - 1, 1 << i, 1<<i + 1} {
			out = append(out, n, -n)
		}
	}
	return out
}

// randomNumbers answers numbers of all sizes, the same ones each time.
func randomNumbers(count int) []int64 {
	r := rand.New(rand.NewSource(3))
	out := make([]int64, count)
	for i := range out {
		out[i] = int64(r.Uint64()) >> r.Intn(64)
	}
	return out
}

// forPairs asks about every two of numbers, and about many others.
func forPairs(ask func(a, b int64)) {
	all := numbers()
	for _, a := range all {
		for _, b := range all {
			ask(a, b)
		}
	}
	others := randomNumbers(200000)
	for i := 1; i < len(others); i++ {
		ask(others[i-1], others[i])
	}
}

func large(n int64) *big.Int {
	return big.NewInt(n)
}

func held(n *big.Int) int64 {
	if n.IsInt64() {
		return n.Int64()
	}
	if n.Sign() < 0 {
		return math.MinInt64
	}
	return math.MaxInt64
}

// floorDiv answers top / bottom, rounded down.
func floorDiv(top, bottom *big.Int) *big.Int {
	if bottom.Sign() < 0 {
		top, bottom = new(big.Int).Neg(top), new(big.Int).Neg(bottom)
	}
	return new(big.Int).Div(top, bottom) // with a divisor above 0, Euclid's quotient is the one rounded down
}

// P3.1

func TestOf(t *testing.T) {
	for _, c := range []struct{ n, want int64 }{
		{0, 0},
		{1, one},
		{-1, -one},
		{5, 5 * one},
		{1<<31 - 1, (1<<31 - 1) * one},
		{1 << 31, math.MaxInt64},
		{1<<31 + 1, math.MaxInt64},
		{math.MaxInt64, math.MaxInt64},
		{-1<<31 + 1, (-1<<31 + 1) * one},
		{-1 << 31, math.MinInt64},
		{-1<<31 - 1, math.MinInt64},
		{math.MinInt64, math.MinInt64},
	} {
		if got := Of(c.n); got != c.want {
			t.Errorf("Of(%d): %d, want %d", c.n, got, c.want)
		}
	}
	for _, n := range append(numbers(), randomNumbers(10000)...) {
		if got, want := Of(n), held(new(big.Int).Lsh(large(n), 32)); got != want {
			t.Errorf("Of(%d): %d, want %d", n, got, want)
		}
	}
}

func TestFloor(t *testing.T) {
	for _, c := range []struct{ f, want int64 }{
		{0, 0},
		{1, 0},
		{one - 1, 0},
		{one, 1},
		{one + 5, 1},
		{-1, -1},
		{-one, -1},
		{-one - 1, -2},
		{math.MaxInt64, 1<<31 - 1},
		{math.MinInt64, -1 << 31},
		{math.MinInt64 + 1, -1 << 31},
	} {
		if got := Floor(c.f); got != c.want {
			t.Errorf("Floor(%d): %d, want %d", c.f, got, c.want)
		}
	}
	for _, f := range append(numbers(), randomNumbers(10000)...) {
		if got, want := Floor(f), floorDiv(large(f), large(one)).Int64(); got != want {
			t.Errorf("Floor(%d): %d, want %d", f, got, want)
		}
	}
}

func TestFloorOfOf(t *testing.T) {
	for _, n := range []int64{0, 1, -1, 77, -77, 1<<31 - 1, -1 << 31} {
		if got := Floor(Of(n)); got != n {
			t.Errorf("Floor(Of(%d)): %d", n, got)
		}
	}
}

func TestAdd(t *testing.T) {
	for _, c := range []struct{ a, b, want int64 }{
		{one, one / 2, one + one/2},
		{math.MaxInt64, 0, math.MaxInt64},
		{math.MaxInt64, 1, math.MaxInt64},
		{math.MaxInt64 - 1, 1, math.MaxInt64},
		{math.MaxInt64, -1, math.MaxInt64 - 1},
		{math.MaxInt64, math.MaxInt64, math.MaxInt64},
		{math.MinInt64, -1, math.MinInt64},
		{math.MinInt64, math.MinInt64, math.MinInt64},
		{math.MinInt64, math.MaxInt64, -1},
	} {
		if got := Add(c.a, c.b); got != c.want {
			t.Errorf("Add(%d, %d): %d, want %d", c.a, c.b, got, c.want)
		}
	}
	forPairs(func(a, b int64) {
		if got, want := Add(a, b), held(new(big.Int).Add(large(a), large(b))); got != want {
			t.Errorf("Add(%d, %d): %d, want %d", a, b, got, want)
		}
	})
}

func TestSub(t *testing.T) {
	for _, c := range []struct{ a, b, want int64 }{
		{one, one / 2, one / 2},
		{0, math.MinInt64, math.MaxInt64},
		{-1, math.MinInt64, math.MaxInt64},
		{-2, math.MinInt64, math.MaxInt64 - 1},
		{0, math.MaxInt64, -math.MaxInt64},
		{-1, math.MaxInt64, math.MinInt64},
		{-2, math.MaxInt64, math.MinInt64},
		{math.MinInt64, math.MinInt64, 0},
		{math.MinInt64, 1, math.MinInt64},
		{math.MaxInt64, -1, math.MaxInt64},
	} {
		if got := Sub(c.a, c.b); got != c.want {
			t.Errorf("Sub(%d, %d): %d, want %d", c.a, c.b, got, c.want)
		}
	}
	forPairs(func(a, b int64) {
		if got, want := Sub(a, b), held(new(big.Int).Sub(large(a), large(b))); got != want {
			t.Errorf("Sub(%d, %d): %d, want %d", a, b, got, want)
		}
	})
}

// P3.2

func TestMul(t *testing.T) {
	for _, c := range []struct{ a, b, want int64 }{
		{one / 2, one / 2, one / 4},
		{3 * one, -7 * one, -21 * one},
		{1, 1, 0},
		{-1, 1, -1},
		{-1, -1, 0},
		{-1, one, -1},
		{-3, one / 2, -2},
		{0, math.MinInt64, 0},
		{math.MinInt64, one, math.MinInt64},
		{math.MinInt64, -one, math.MaxInt64},
		{math.MinInt64, one + 1, math.MinInt64},
		{math.MaxInt64, one, math.MaxInt64},
		{math.MaxInt64, -one, -math.MaxInt64},
		{math.MaxInt64, -one - 1, math.MinInt64},
		{math.MinInt64, math.MinInt64, math.MaxInt64},
		{math.MinInt64, math.MaxInt64, math.MinInt64},
		{math.MaxInt64, math.MaxInt64, math.MaxInt64},
	} {
		if got := Mul(c.a, c.b); got != c.want {
			t.Errorf("Mul(%d, %d): %d, want %d", c.a, c.b, got, c.want)
		}
	}
	forPairs(func(a, b int64) {
		product := new(big.Int).Mul(large(a), large(b))
		if got, want := Mul(a, b), held(floorDiv(product, large(one))); got != want {
			t.Errorf("Mul(%d, %d): %d, want %d", a, b, got, want)
		}
	})
}

func TestDiv(t *testing.T) {
	for _, c := range []struct{ a, b, want int64 }{
		{one, 3 * one, 1431655765},
		{-one, 3 * one, -1431655766},
		{one, -3 * one, -1431655766},
		{-one, -3 * one, 1431655765},
		{0, -5, 0},
		{-1, 2 * one, -1},
		{1, 2 * one, 0},
		{1, math.MinInt64, -1},
		{math.MinInt64, -1, math.MaxInt64},
		{math.MinInt64, 1, math.MinInt64},
		{math.MinInt64, one, math.MinInt64},
		{math.MinInt64, -one, math.MaxInt64},
		{math.MinInt64, math.MinInt64, one},
		{math.MinInt64, math.MaxInt64, -one - 1},
		{math.MaxInt64, one, math.MaxInt64},
		{math.MaxInt64, one - 1, math.MaxInt64},
		{1<<31 - 1, 1, (1<<31 - 1) * one},
		{1 << 31, 1, math.MaxInt64},
		{-1 << 31, 1, math.MinInt64},
		{-1<<31 - 1, 1, math.MinInt64},
	} {
		if got, e := Div(c.a, c.b); got != c.want || e != api.OK {
			t.Errorf("Div(%d, %d): %d, %d, want %d", c.a, c.b, got, e, c.want)
		}
	}
	forPairs(func(a, b int64) {
		if b == 0 {
			return
		}
		top := new(big.Int).Lsh(large(a), 32)
		if got, e := Div(a, b); got != held(floorDiv(top, large(b))) || e != api.OK {
			t.Errorf("Div(%d, %d): %d, %d, want %d", a, b, got, e, held(floorDiv(top, large(b))))
		}
	})
}

func TestDivByNought(t *testing.T) {
	for _, a := range numbers() {
		if got, e := Div(a, 0); got != 0 || e != api.ErrRange {
			t.Errorf("Div(%d, 0): %d, %d", a, got, e)
		}
	}
}

// P3.3

func TestRoot(t *testing.T) {
	for _, c := range []struct{ n, want uint64 }{
		{0, 0},
		{1, 1},
		{3, 1},
		{4, 2},
		{99, 9},
		{100, 10},
		{1<<62 - 1, 1<<31 - 1},
		{1 << 62, 1 << 31},
		{1 << 63, 3037000499},
		{math.MaxUint32 * math.MaxUint32, math.MaxUint32},
		{math.MaxUint32*math.MaxUint32 - 1, math.MaxUint32 - 1},
		{math.MaxUint64, math.MaxUint32},
	} {
		if got := Root(c.n); got != c.want {
			t.Errorf("Root(%d): %d, want %d", c.n, got, c.want)
		}
	}
}

func TestRootAroundSquares(t *testing.T) {
	roots := []uint64{math.MaxUint32, 94906267, 3037000499, 3037000500}
	for r := range uint64(5000) {
		roots = append(roots, r+1)
	}
	for i := 13; i < 32; i++ {
		roots = append(roots, 1<<i-1, 1<<i, 1<<i+1)
	}
	for _, n := range randomNumbers(10000) {
		roots = append(roots, uint64(uint32(n))|1)
	}
	for _, r := range roots {
		square := r * r
		if got := Root(square); got != r {
			t.Errorf("Root(%d): %d, want %d", square, got, r)
		}
		if got := Root(square - 1); got != r-1 {
			t.Errorf("Root(%d): %d, want %d", square-1, got, r-1)
		}
		if got := Root(square + 2*r); got != r {
			t.Errorf("Root(%d): %d, want %d", square+2*r, got, r)
		}
	}
}

// P3.4

// sineOf is what the chapter says of a part of a turn from 0 to 1023.
func sineOf(part int64) int64 {
	h := part
	if part >= 512 {
		h -= 512
	}
	p := h * (512 - h)
	sine := floorDiv(new(big.Int).Lsh(large(16*p), 32), large(1310720-4*p)).Int64()
	if part >= 512 {
		return -sine
	}
	return sine
}

func TestSine(t *testing.T) {
	for _, c := range []struct{ turn, want int64 }{
		{0, 0},
		{1, 26832961},
		{128, 3031741620},
		{256, one},
		{511, 26832961},
		{512, 0},
		{513, -26832961},
		{768, -one},
		{1023, -26832961},
		{1024, 0},
		{-1, -26832961},
		{-256, -one},
		{-512, 0},
		{-768, one},
		{-1024, 0},
		{math.MaxInt64, -26832961},
		{math.MinInt64, 0},
		{math.MinInt64 + 256, one},
	} {
		if got := Sine(c.turn); got != c.want {
			t.Errorf("Sine(%d): %d, want %d", c.turn, got, c.want)
		}
	}
	for part := range int64(1024) {
		for _, turn := range []int64{part, part + 1024, part - 1024, part + 1<<40, part - 1<<40, math.MinInt64 + part, math.MaxInt64 - 1023 + part} {
			if got, want := Sine(turn), sineOf(part); got != want {
				t.Errorf("Sine(%d): %d, want %d", turn, got, want)
			}
		}
	}
}

// P3.5

func TestOrderOfTwo(t *testing.T) {
	forPairs(func(a, b int64) {
		if x, y := Add(a, b), Add(b, a); x != y {
			t.Errorf("Add(%d, %d): %d, the other way round %d", a, b, x, y)
		}
		if x, y := Mul(a, b), Mul(b, a); x != y {
			t.Errorf("Mul(%d, %d): %d, the other way round %d", a, b, x, y)
		}
	})
}

func TestSineStaysWithinOneAndComesBack(t *testing.T) {
	for _, turn := range append(numbers(), randomNumbers(100000)...) {
		sine := Sine(turn)
		if sine > one || sine < -one {
			t.Errorf("Sine(%d): %d, more than 1 in size", turn, sine)
		}
		if turn <= math.MaxInt64-1024 && Sine(turn+1024) != sine {
			t.Errorf("Sine(%d): %d, a whole turn later %d", turn, sine, Sine(turn+1024))
		}
		if turn <= math.MaxInt64-512 && Sine(turn+512) != -sine {
			t.Errorf("Sine(%d): %d, half a turn later %d", turn, sine, Sine(turn+512))
		}
	}
}
