// Package sha is layer 1: SHA-256, HMAC, and whether two tags are alike. See shared/doc/01-sha.md.
package sha

import (
	"skirmish/api"
)

// Hash is a hash of bytes that come one behind the other.
// While length is 0 the words say nothing: so the zero Hash is ready for use.
type Hash struct {
	words  [8]uint32       // the hash of all whole blocks so far
	block  [blockSize]byte // the first length % blockSize bytes of it are the block that isn't whole yet
	length uint64          // how many bytes have been written
}

// Sum answers the hash of all parts, one behind the other.
func Sum(parts ...[]byte) api.Digest {
	var h Hash
	h.writeAll(parts)
	return h.Sum()
}

// New answers a hash of no bytes.
func New() *Hash {
	return &Hash{}
}

// Write puts b's bytes behind those that are there. A nil Hash takes none.
func (h *Hash) Write(b []byte) {
	if h == nil || len(b) == 0 {
		return
	}
	if h.length == 0 {
		h.words = firstHash()
	}
	for len(b) > 0 {
		filled := int(h.length % blockSize)
		taken := copy(h.block[filled:], b)
		h.length += uint64(taken)
		b = b[taken:]
		if filled+taken == blockSize {
			h.words = mix(h.words, h.block)
		}
	}
}

// Sum answers the hash of all bytes so far. A nil Hash has none.
func (h *Hash) Sum() api.Digest {
	var end Hash // a copy takes the padding, so that more may be written to h
	if h != nil {
		end = *h
	}
	end.pad()
	return wordsToBytes(end.words)
}

// Tag answers the HMAC of all parts, one behind the other, by the key.
func Tag(key api.Digest, parts ...[]byte) api.Digest {
	inner := keyBlock(key, innerMask)
	outer := keyBlock(key, outerMask)
	var h Hash
	h.Write(inner[:])
	h.writeAll(parts)
	digest := h.Sum()
	return Sum(outer[:], digest[:])
}

// Equal tells whether a and b are the same.
// It looks at every byte, wherever they differ, so that its steps tell nothing of a tag.
func Equal(a, b api.Digest) bool {
	var unlike byte
	for i := range len(a) {
		unlike |= a[i] ^ b[i]
	}
	return unlike == 0
}

func (h *Hash) writeAll(parts [][]byte) {
	for _, part := range parts {
		h.Write(part)
	}
}
