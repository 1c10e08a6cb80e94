package codec

import (
	"math"
)

const (
	mostNumber  = math.MaxInt64
	leastSigned = math.MinInt64
	signedZero  = 1   // 0 with the sign of a number below it, which nobody writes
	moreBit     = 128 // set in all bytes of a number but the last one
	lastPlace   = 9   // where the 64th bit stands, alone
)

// appendSevens puts n's bytes behind b. It takes all 64 bits, as a signed number may need them.
func appendSevens(b []byte, n uint64) []byte {
	for n >= moreBit {
		b = append(b, byte(n)|moreBit)
		n >>= 7
	}
	return append(b, byte(n))
}

// joinSevens answers the number with whose bytes b begins, and how many bytes it has: none, if b begins otherwise.
func joinSevens(b []byte) (uint64, int) {
	n := uint64(0)
	for i, x := range b {
		if i == lastPlace && x > 1 {
			return 0, 0 // more than 64 bits
		}
		n |= uint64(x&^moreBit) << (7 * i)
		if x >= moreBit {
			continue
		}
		if x == 0 && i > 0 {
			return 0, 0 // fewer bytes would have done
		}
		return n, i + 1
	}
	return 0, 0
}

// foldSign answers twice n's size, and 1 more if n is below 0.
func foldSign(n int64) uint64 {
	if n < 0 {
		return uint64(-n)<<1 | 1
	}
	return uint64(n) << 1
}

func unfoldSign(folded uint64) int64 {
	size := int64(folded >> 1)
	if folded&1 == 1 {
		return -size
	}
	return size
}
