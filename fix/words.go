package fix

import (
	"math"
)

// beyond is the size from which on every number is held: the least int64's.
const beyond = uint64(1) << 63

// rounded is a size without what stands behind its last bit, and whether anything stood there.
type rounded struct {
	whole uint64 // beyond, if it is that or more
	rest  bool
}

// size answers n without its sign; the least int64 has one too.
func size(n int64) uint64 {
	if n < 0 {
		return -uint64(n)
	}
	return uint64(n)
}

func unlikeSigns(a, b int64) bool {
	return (a < 0) != (b < 0)
}

// withSign answers the number of that size, rounded down, held.
func withSign(r rounded, below bool) int64 {
	if r.whole >= beyond {
		if below {
			return math.MinInt64
		}
		return math.MaxInt64
	}
	if !below {
		return int64(r.whole)
	}
	down := -int64(r.whole)
	if r.rest {
		down-- // below 0 the next number that isn't greater is the one of the greater size
	}
	return down
}

// productSize answers a b / 2^32.
func productSize(a, b uint64) rounded {
	high, low := multiply(a, b)
	if high >= beyond>>pointBits {
		return rounded{whole: beyond}
	}
	return rounded{whole: high<<pointBits | low>>pointBits, rest: uint32(low) != 0}
}

// multiply answers the product of two words as two words.
func multiply(a, b uint64) (high, low uint64) {
	aHigh, aLow := a>>32, uint64(uint32(a))
	bHigh, bLow := b>>32, uint64(uint32(b))
	bottom := aLow * bLow
	cross := aHigh*bLow + bottom>>32             // fits: (2^32-1)^2 + 2^32-1 is below 2^64
	middle := aLow*bHigh + uint64(uint32(cross)) // fits likewise
	return aHigh*bHigh + cross>>32 + middle>>32, middle<<32 | uint64(uint32(bottom))
}

// quotientSize answers 2^32 a / b, for sizes of int64s and a b that isn't 0.
func quotientSize(a, b uint64) rounded {
	whole, left := a/b, a%b
	if whole >= beyond>>pointBits {
		return rounded{whole: beyond}
	}
	for range pointBits {
		whole, left = whole<<1, left<<1 // left was below b, and so below 2^63
		if left >= b {
			whole, left = whole|1, left-b
		}
	}
	return rounded{whole: whole, rest: left != 0}
}
