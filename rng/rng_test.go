package rng

import (
	"math"
	"math/big"
	"slices"
	"testing"
)

// plain is the chapter's rule, reckoned in numbers of any length.
type plain struct {
	seed *big.Int
}

var all = new(big.Int).Lsh(big.NewInt(1), 64)

func large(n uint64) *big.Int {
	return new(big.Int).SetUint64(n)
}

func plainOf(seed uint64) *plain {
	return &plain{seed: large(seed)}
}

// folded answers z xor z / 2^bits.
func folded(z *big.Int, bits uint) *big.Int {
	quotient := new(big.Int).Div(z, new(big.Int).Lsh(big.NewInt(1), bits))
	return quotient.Xor(quotient, z)
}

func times(z *big.Int, factor uint64) *big.Int {
	product := new(big.Int).Mul(z, large(factor))
	return product.Mod(product, all)
}

func (p *plain) next() uint64 {
	p.seed = new(big.Int).Add(p.seed, large(0x9e3779b97f4a7c15))
	p.seed.Mod(p.seed, all)
	z := times(folded(p.seed, 30), 0xbf58476d1ce4e5b9)
	z = times(folded(z, 27), 0x94d049bb133111eb)
	return folded(z, 31).Uint64()
}

func (p *plain) below(n uint64) uint64 {
	if n == 0 {
		return 0
	}
	end := new(big.Int).Sub(all, new(big.Int).Mod(all, large(n)))
	number := p.next()
	for large(number).Cmp(end) >= 0 {
		number = p.next()
	}
	return new(big.Int).Mod(large(number), large(n)).Uint64()
}

func (p *plain) shuffled(l []int) []int {
	out := slices.Clone(l)
	for i := len(out) - 1; i >= 1; i-- {
		j := p.below(uint64(i + 1))
		kept := out[i]
		out[i] = out[j]
		out[j] = kept
	}
	return out
}

// unfolded answers the z of which folded by bits is that.
func unfolded(z uint64, bits uint) uint64 {
	out := z
	for shift := bits; shift < 64; shift += bits {
		out = z ^ out>>bits
	}
	return out
}

func inverse(factor uint64) uint64 {
	return new(big.Int).ModInverse(large(factor), all).Uint64()
}

// seedAheadOf answers the seed whose next number is that.
func seedAheadOf(number uint64) uint64 {
	z := unfolded(number, 31) * inverse(0x94d049bb133111eb)
	z = unfolded(z, 27) * inverse(0xbf58476d1ce4e5b9)
	return unfolded(z, 30) - 0x9e3779b97f4a7c15
}

// seeds answers those at the ends and around every power of two.
func seeds() []uint64 {
	out := []uint64{0, math.MaxUint64, 0x61c8864680b583eb, 0x61c8864680b583ea, 1234567}
	for i := range 64 {
		power := uint64(1) << i
		out = append(out, power-1, power, power+1)
	}
	return out
}

func upTo(n int) []int {
	out := make([]int, n)
	for i := range out {
		out[i] = i
	}
	return out
}

// P4.1

func TestNextKnown(t *testing.T) {
	for _, c := range []struct {
		seed uint64
		want [4]uint64
	}{
		{0, [4]uint64{0xe220a8397b1dcdaf, 0x6e789e6aa1b965f4, 0x06c45d188009454f, 0xf88bb8a8724c81ec}},
		{1, [4]uint64{0x910a2dec89025cc1, 0xbeeb8da1658eec67, 0xf893a2eefb32555e, 0x71c18690ee42c90b}},
		{7, [4]uint64{0x63cbe1e459320dd7, 0x044c3cd7f43c661c, 0xe6984080bab12a02, 0x953aeb70673e29cb}},
		{1234567, [4]uint64{0x599ed017fb08fc85, 0x2c73f08458540fa5, 0x883ebce5a3f27c77, 0x3fbef740e9177b3f}},
		{1 << 63, [4]uint64{0x481ec0a212a9f3db, 0xc46fa638a6309012, 0x61a685ffc80a8140, 0x592e268383e356f9}},
		{math.MaxUint64, [4]uint64{0xe4d971771b652c20, 0xe99ff867dbf682c9, 0x382ff84cb27281e9, 0x6d1db36ccba982d2}},
		{0x61c8864680b583eb, [4]uint64{0, 0xe220a8397b1dcdaf, 0x6e789e6aa1b965f4, 0x06c45d188009454f}},
	} {
		s := New(c.seed)
		for i, want := range c.want {
			if got := s.Next(); got != want {
				t.Errorf("seed %x, number %d: %x, want %x", c.seed, i, got, want)
			}
		}
	}
}

func TestNextByTheRule(t *testing.T) {
	for _, seed := range seeds() {
		s, p := New(seed), plainOf(seed)
		for range 50 {
			if got, want := s.Next(), p.next(); got != want {
				t.Fatalf("seed %x: %x, want %x", seed, got, want)
			}
			if got, want := s.Seed(), p.seed.Uint64(); got != want {
				t.Fatalf("seed %x: Seed %x, want %x", seed, got, want)
			}
		}
	}
}

func TestSeed(t *testing.T) {
	for _, seed := range seeds() {
		s := New(seed)
		if s.Seed() != seed || s.Seed() != seed {
			t.Errorf("New(%x): Seed %x", seed, s.Seed())
		}
		s.Next()
		s.Next()
		later := New(s.Seed())
		for range 10 {
			if a, b := s.Next(), later.Next(); a != b {
				t.Errorf("seed %x: %x, by its Seed %x", seed, a, b)
			}
		}
	}
	s := New(0)
	s.Next()
	if s.Seed() != 0x9e3779b97f4a7c15 {
		t.Errorf("behind one number: Seed %x", s.Seed())
	}
}

func TestMixKnown(t *testing.T) {
	for _, c := range []struct {
		seed uint64
		turn int
		want uint64
	}{
		{0, 0, 0xa706dd2f4d197e6f},
		{1, 2, 0xe06dd043328bd285},
		{2, 1, 0xbcd9dbb49673066b},
		{77, 59, 0xa670e37dcb1b1c77},
		{5, -1, 0x3562133a936c2870},
		{math.MaxUint64, math.MaxInt64, 0xcd97f2d652fdfbb4},
		{0, math.MinInt64, 0x86db92e833b0c1a0},
	} {
		if got := Mix(c.seed, c.turn); got != c.want {
			t.Errorf("Mix(%x, %d): %x, want %x", c.seed, c.turn, got, c.want)
		}
	}
}

func TestMixByTheRule(t *testing.T) {
	for _, seed := range seeds() {
		for _, turn := range []int{0, 1, -1, 2, 59, 60, -60, math.MaxInt64, math.MinInt64} {
			turned := new(big.Int).Mod(big.NewInt(int64(turn)), all)
			want := plainOf(seed ^ plainOf(turned.Uint64()).next()).next()
			if got := Mix(seed, turn); got != want {
				t.Errorf("Mix(%x, %d): %x, want %x", seed, turn, got, want)
			}
		}
	}
}

// P4.2

func TestBelowNought(t *testing.T) {
	for _, seed := range seeds() {
		s := New(seed)
		if got := s.Below(0); got != 0 || s.Seed() != seed {
			t.Errorf("seed %x: Below(0) %d, then Seed %x", seed, got, s.Seed())
		}
	}
}

func TestBelowOne(t *testing.T) {
	for _, seed := range append(seeds(), seedAheadOf(math.MaxUint64)) {
		s := New(seed)
		if got := s.Below(1); got != 0 || s.Seed() != seed+0x9e3779b97f4a7c15 {
			t.Errorf("seed %x: Below(1) %d, then Seed %x", seed, got, s.Seed())
		}
	}
}

func TestBelowKnown(t *testing.T) {
	s := New(42)
	for _, c := range []struct{ n, want uint64 }{
		{1, 0},
		{2, 1},
		{3, 0},
		{6, 0},
		{10, 0},
		{100, 62},
		{1000, 925},
		{1<<63 + 1, 6270620877612482005},
		{1<<63 + 1, 3779771651426294207},
		{math.MaxUint64, 9094045341461139646},
		{10, 8},
	} {
		if got := s.Below(c.n); got != c.want {
			t.Errorf("Below(%d): %d, want %d", c.n, got, c.want)
		}
	}
	if s.Seed() != 0x08d12e6b76c84d3b {
		t.Errorf("then Seed %x", s.Seed())
	}
}

func TestBelowByTheRule(t *testing.T) {
	for _, n := range seeds() {
		s, p := New(n^5), plainOf(n^5)
		for range 50 {
			got, want := s.Below(n), p.below(n)
			if got != want || s.Seed() != p.seed.Uint64() {
				t.Fatalf("Below(%d): %d, want %d", n, got, want)
			}
			if n > 0 && got >= n {
				t.Fatalf("Below(%d): %d", n, got)
			}
		}
	}
}

// TestBelowAtTheEnd asks with the last number that may be taken, and with the first that may not.
func TestBelowAtTheEnd(t *testing.T) {
	for _, c := range []struct{ n, last uint64 }{
		{1, math.MaxUint64},
		{2, math.MaxUint64},
		{3, math.MaxUint64 - 1},
		{5, math.MaxUint64 - 1},
		{6, math.MaxUint64 - 4},
		{7, math.MaxUint64 - 2},
		{10, math.MaxUint64 - 6},
		{1 << 32, math.MaxUint64},
		{1<<63 - 1, math.MaxUint64 - 2},
		{1 << 63, math.MaxUint64},
		{1<<63 + 1, 1 << 63},
		{math.MaxUint64 - 1, math.MaxUint64 - 2},
		{math.MaxUint64, math.MaxUint64 - 1},
	} {
		s := New(seedAheadOf(c.last))
		if got, want := s.Below(c.n), c.last%c.n; got != want || s.Seed() != seedAheadOf(c.last)+0x9e3779b97f4a7c15 {
			t.Errorf("Below(%d) at %d: %d, want %d of one number", c.n, c.last, got, want)
		}
		if c.last == math.MaxUint64 {
			continue
		}
		for _, over := range []uint64{c.last + 1, math.MaxUint64} {
			seed := seedAheadOf(over)
			s, behind := New(seed), New(seed)
			behind.Next()
			if got, want := s.Below(c.n), behind.Below(c.n); got != want || s.Seed() != behind.Seed() {
				t.Errorf("Below(%d) at %d: %d, want that of the numbers behind it, %d", c.n, over, got, want)
			}
		}
	}
}

func TestSeedAheadOf(t *testing.T) {
	for _, number := range seeds() {
		if got := plainOf(seedAheadOf(number)).next(); got != number {
			t.Errorf("%x: %x", number, got)
		}
	}
}

// P4.3

func TestShuffleKnown(t *testing.T) {
	for _, c := range []struct {
		seed, then uint64
		l, want    []int
	}{
		{0, 0x78dde6e5fd29f054, []int{1, 2, 3, 4, 5}, []int{3, 4, 2, 5, 1}},
		{7, 0x78dde6e5fd29f05b, []int{1, 2, 3, 4, 5}, []int{5, 2, 4, 1, 3}},
		{math.MaxUint64, 0x78dde6e5fd29f053, []int{1, 2, 3, 4, 5}, []int{3, 1, 4, 5, 2}},
		{0, 0x8ff34785799e5cbd, []int{1, 2, 3, 4, 5, 6, 7, 8, 9, 10}, []int{7, 4, 3, 10, 9, 2, 5, 8, 1, 6}},
		{7, 0x8ff34785799e5cc4, []int{1, 2, 3, 4, 5, 6, 7, 8, 9, 10}, []int{9, 2, 6, 10, 1, 5, 4, 3, 7, 8}},
		{7, 0x78dde6e5fd29f05b, []int{-1, 8, 8, math.MinInt64, math.MaxInt64}, []int{math.MaxInt64, 8, math.MinInt64, -1, 8}},
	} {
		s := New(c.seed)
		if got := s.Shuffle(c.l); !slices.Equal(got, c.want) || s.Seed() != c.then {
			t.Errorf("seed %x: %v, then Seed %x, want %v, %x", c.seed, got, s.Seed(), c.want, c.then)
		}
	}
}

func TestShuffleByTheRule(t *testing.T) {
	for _, seed := range seeds() {
		s, p := New(seed), plainOf(seed)
		for n := range 45 {
			got, want := s.Shuffle(upTo(n)), p.shuffled(upTo(n))
			if !slices.Equal(got, want) || s.Seed() != p.seed.Uint64() {
				t.Fatalf("seed %x: %v, want %v", seed, got, want)
			}
		}
	}
}

func TestShuffleOfFew(t *testing.T) {
	for _, l := range [][]int{nil, {}, {9}} {
		s := New(3)
		if got := s.Shuffle(l); !slices.Equal(got, l) || s.Seed() != 3 {
			t.Errorf("%v: %v, then Seed %x", l, got, s.Seed())
		}
	}
}

func TestShuffleLeavesItsList(t *testing.T) {
	for _, s := range []*Source{New(7), nil} {
		room := upTo(12)
		got := s.Shuffle(room[2:7])
		whole := got[:cap(got)]
		for i := range whole {
			whole[i] = -1
		}
		if !slices.Equal(room, upTo(12)) {
			t.Errorf("the list was changed: %v", room)
		}
	}
	s := New(7)
	l := upTo(9)
	first := s.Shuffle(l)
	kept := slices.Clone(first)
	s.Shuffle(l)
	s.Shuffle(first)
	if !slices.Equal(first, kept) {
		t.Errorf("the answer was changed: %v, %v", kept, first)
	}
}

// P4.4

func TestShuffleKeepsAll(t *testing.T) {
	s := New(11)
	for n := range 300 {
		l := make([]int, n)
		for i := range l {
			l[i] = i/2 - n/4
		}
		got := s.Shuffle(l)
		slices.Sort(got)
		if !slices.Equal(got, l) {
			t.Errorf("%d members: %v", n, got)
		}
	}
}

func TestShuffleReachesEveryOrder(t *testing.T) {
	seen := map[[4]int]int{}
	s := New(0)
	for range 2000 {
		seen[[4]int(s.Shuffle(upTo(4)))]++
	}
	if len(seen) != 24 {
		t.Errorf("%d orders of 24", len(seen))
	}
}

// asked answers what a source tells when it is asked for all kinds of things.
func asked(s *Source) []uint64 {
	var out []uint64
	for n := range uint64(30) {
		out = append(out, s.Next(), s.Below(n), s.Below(1<<63+n), s.Seed())
		for _, member := range s.Shuffle(upTo(int(n))) {
			out = append(out, uint64(member))
		}
	}
	return out
}

func TestOneSeedOneAnswer(t *testing.T) {
	for _, seed := range seeds() {
		if !slices.Equal(asked(New(seed)), asked(New(seed))) {
			t.Errorf("seed %x: unlike answers", seed)
		}
	}
}

func TestSourcesStandAlone(t *testing.T) {
	want := asked(New(8))
	a, b := New(8), New(8)
	asked(a)
	if a.Seed() == b.Seed() || b.Seed() != 8 {
		t.Errorf("Seed %x, %x", a.Seed(), b.Seed())
	}
	Mix(8, 8)
	if !slices.Equal(asked(b), want) {
		t.Error("a source hangs on another")
	}
}

func TestZeroSource(t *testing.T) {
	var s Source
	if s.Seed() != 0 {
		t.Errorf("Seed %x", s.Seed())
	}
	if !slices.Equal(asked(&s), asked(New(0))) {
		t.Error("the zero Source isn't as New(0)")
	}
}

func TestNilSource(t *testing.T) {
	var s *Source
	for range 3 {
		if s.Next() != 0 || s.Seed() != 0 {
			t.Error("a number of no source")
		}
		for _, n := range seeds() {
			if s.Below(n) != 0 {
				t.Errorf("Below(%d) of no source", n)
			}
		}
	}
	for _, l := range [][]int{nil, {}, {4}, {4, 4, 1, 3, 2}, upTo(40)} {
		if got := s.Shuffle(l); !slices.Equal(got, l) {
			t.Errorf("%v: %v", l, got)
		}
	}
}
