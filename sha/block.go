package sha

import (
	"skirmish/api"
)

const (
	blockSize  = 64
	lengthSize = 8 // the bytes at the end of the last block that tell the number of bits

	endMark   = 128
	innerMask = 54
	outerMask = 92
)

// roundWords are K(0) to K(63) of the chapter.
var roundWords = [64]uint32{
	0x428a2f98, 0x71374491, 0xb5c0fbcf, 0xe9b5dba5, 0x3956c25b, 0x59f111f1, 0x923f82a4, 0xab1c5ed5,
	0xd807aa98, 0x12835b01, 0x243185be, 0x550c7dc3, 0x72be5d74, 0x80deb1fe, 0x9bdc06a7, 0xc19bf174,
	0xe49b69c1, 0xefbe4786, 0x0fc19dc6, 0x240ca1cc, 0x2de92c6f, 0x4a7484aa, 0x5cb0a9dc, 0x76f988da,
	0x983e5152, 0xa831c66d, 0xb00327c8, 0xbf597fc7, 0xc6e00bf3, 0xd5a79147, 0x06ca6351, 0x14292967,
	0x27b70a85, 0x2e1b2138, 0x4d2c6dfc, 0x53380d13, 0x650a7354, 0x766a0abb, 0x81c2c92e, 0x92722c85,
	0xa2bfe8a1, 0xa81a664b, 0xc24b8b70, 0xc76c51a3, 0xd192e819, 0xd6990624, 0xf40e3585, 0x106aa070,
	0x19a4c116, 0x1e376c08, 0x2748774c, 0x34b0bcb5, 0x391c0cb3, 0x4ed8aa4a, 0x5b9cca4f, 0x682e6ff3,
	0x748f82ee, 0x78a5636f, 0x84c87814, 0x8cc70208, 0x90befffa, 0xa4506ceb, 0xbef9a3f7, 0xc67178f2,
}

func firstHash() [8]uint32 {
	return [8]uint32{
		0x6a09e667, 0xbb67ae85, 0x3c6ef372, 0xa54ff53a, 0x510e527f, 0x9b05688c, 0x1f83d9ab, 0x5be0cd19,
	}
}

// pad writes the end mark, noughts and the number of bits, so that the last block is whole.
func (h *Hash) pad() {
	bits := h.length << 3
	var tail [blockSize + lengthSize]byte
	tail[0] = endMark
	free := blockSize - int(h.length%blockSize)
	if free < 1+lengthSize {
		free += blockSize // the mark and the number don't fit any more: they end one block later
	}
	for i := range lengthSize {
		tail[free-1-i] = byte(bits >> (8 * i))
	}
	h.Write(tail[:free])
}

// mix answers the hash behind one more block.
func mix(before [8]uint32, block [blockSize]byte) [8]uint32 {
	schedule := expand(block)
	a, b, c, d := before[0], before[1], before[2], before[3]
	e, f, g, h := before[4], before[5], before[6], before[7]
	for t := range 64 {
		t1 := h + bigSum1(e) + choose(e, f, g) + roundWords[t] + schedule[t]
		t2 := bigSum0(a) + majority(a, b, c)
		h, g, f, e, d, c, b, a = g, f, e, d+t1, c, b, a, t1+t2
	}
	return [8]uint32{
		before[0] + a, before[1] + b, before[2] + c, before[3] + d,
		before[4] + e, before[5] + f, before[6] + g, before[7] + h,
	}
}

// expand answers W(0) to W(63) of a block.
func expand(block [blockSize]byte) [64]uint32 {
	var w [64]uint32
	for t := range 16 {
		w[t] = uint32(block[4*t])<<24 | uint32(block[4*t+1])<<16 | uint32(block[4*t+2])<<8 | uint32(block[4*t+3])
	}
	for t := 16; t < 64; t++ {
		w[t] = smallSum1(w[t-2]) + w[t-7] + smallSum0(w[t-15]) + w[t-16]
	}
	return w
}

func wordsToBytes(words [8]uint32) api.Digest {
	var out api.Digest
	for i, word := range words {
		out[4*i] = byte(word >> 24)
		out[4*i+1] = byte(word >> 16)
		out[4*i+2] = byte(word >> 8)
		out[4*i+3] = byte(word)
	}
	return out
}

// keyBlock answers the key and noughts behind it, as a block, each byte xor mask.
func keyBlock(key api.Digest, mask byte) [blockSize]byte {
	var out [blockSize]byte
	copy(out[:], key[:])
	for i := range out {
		out[i] ^= mask
	}
	return out
}

func choose(x, y, z uint32) uint32 {
	return x&y ^ ^x&z
}

func majority(x, y, z uint32) uint32 {
	return x&y ^ x&z ^ y&z
}

func bigSum0(x uint32) uint32 {
	return turnRight(x, 2) ^ turnRight(x, 13) ^ turnRight(x, 22)
}

func bigSum1(x uint32) uint32 {
	return turnRight(x, 6) ^ turnRight(x, 11) ^ turnRight(x, 25)
}

func smallSum0(x uint32) uint32 {
	return turnRight(x, 7) ^ turnRight(x, 18) ^ x>>3
}

func smallSum1(x uint32) uint32 {
	return turnRight(x, 17) ^ turnRight(x, 19) ^ x>>10
}

// turnRight turns x to the right by 1 to 31 bits.
func turnRight(x uint32, by uint) uint32 {
	return x>>by | x<<(32-by)
}
