package sha

import (
	"bytes"
	"crypto/hmac"
	"crypto/sha256"
	"fmt"
	"strings"
	"testing"

	"skirmish/api"
)

const noBytes = "e3b0c44298fc1c149afbf4c8996fb92427ae41e4649b934ca495991b7852b855"

func hex(d api.Digest) string {
	return fmt.Sprintf("%x", d[:])
}

// sample answers n bytes that repeat neither by blocks nor by words.
func sample(n int) []byte {
	out := make([]byte, n)
	for i := range out {
		out[i] = byte(i*7 + i/64*13 + i/251 + 1)
	}
	return out
}

func sampleKey() api.Digest {
	var key api.Digest
	copy(key[:], sample(32))
	return key
}

// wantTag is the library's HMAC, to hold Tag against.
func wantTag(key api.Digest, b []byte) api.Digest {
	mac := hmac.New(sha256.New, key[:])
	mac.Write(b)
	return api.Digest(mac.Sum(nil))
}

// lengths answers those around the edges of blocks and of the padding.
func lengths() []int {
	return []int{0, 1, 3, 54, 55, 56, 57, 62, 63, 64, 65, 119, 120, 127, 128, 129}
}

// P1.1

func TestSumKnownAnswers(t *testing.T) {
	for _, c := range []struct{ text, want string }{
		{"", noBytes},
		{"abc", "ba7816bf8f01cfea414140de5dae2223b00361a396177a9cb410ff61f20015ad"},
		{"abcdbcdecdefdefgefghfghighijhijkijkljklmklmnlmnomnopnopq", "248d6a61d20638b8e5c026930c3e6039a33ce45964ff2167f6ecedd419db06c1"},
		{strings.Repeat("a", 1000000), "cdc76e5c9914fb9281a1c7e284d73e67f1809a48a497200e046d39ccc7112cd0"},
	} {
		if got := hex(Sum([]byte(c.text))); got != c.want {
			t.Errorf("Sum of %d bytes: %s, want %s", len(c.text), got, c.want)
		}
	}
	if got := hex(Sum()); got != noBytes {
		t.Errorf("Sum of no parts: %s", got)
	}
}

func TestSumOfEveryLength(t *testing.T) {
	for n := range 600 {
		b := sample(n)
		if got, want := Sum(b), api.Digest(sha256.Sum256(b)); got != want {
			t.Errorf("Sum of %d bytes: %x, want %x", n, got, want)
		}
	}
}

func TestSumKeepsTheOrderOfParts(t *testing.T) {
	if Sum([]byte("a"), []byte("bc")) != Sum([]byte("abc")) {
		t.Error("parts are not one behind the other")
	}
	if Sum([]byte("bc"), []byte("a")) != Sum([]byte("bca")) {
		t.Error("the order of parts does not count")
	}
}

func TestTagKnownAnswers(t *testing.T) {
	var short, jefe, twenty api.Digest
	for i := range 20 {
		short[i] = 0x0b
		twenty[i] = 0xaa
	}
	copy(jefe[:], "Jefe")
	for _, c := range []struct {
		key  api.Digest
		text string
		want string
	}{
		{short, "Hi There", "b0344c61d8db38535ca8afceaf0bf12b881dc200c9833da726e9376c2e32cff7"},
		{jefe, "what do ya want for nothing?", "5bdcc146bf60754e6a042426089575c75a003f089d2739839dec58b964ec3843"},
		{twenty, strings.Repeat("\xdd", 50), "773ea91e36800e46854db8ebd09181a72959098b3ef8c122d9635514ced565fe"},
		{api.Digest{}, "", "b613679a0814d9ec772f95d778c35fc5ff1697c493715653c6c712144292c5ad"},
	} {
		if got := hex(Tag(c.key, []byte(c.text))); got != c.want {
			t.Errorf("Tag of %q: %s, want %s", c.text, got, c.want)
		}
	}
}

func TestTagOfEveryLength(t *testing.T) {
	for n := range 300 {
		b := sample(n)
		if got, want := Tag(sampleKey(), b), wantTag(sampleKey(), b); got != want {
			t.Errorf("Tag of %d bytes: %x, want %x", n, got, want)
		}
	}
}

func TestTagHangsOnEveryByteOfTheKey(t *testing.T) {
	for i := range len(api.Digest{}) {
		key := sampleKey()
		key[i] ^= 0x80
		got := Tag(key, []byte("abc"))
		if want := wantTag(key, []byte("abc")); got != want {
			t.Errorf("byte %d of the key turned: %x, want %x", i, got, want)
		}
		if got == Tag(sampleKey(), []byte("abc")) {
			t.Errorf("byte %d of the key does not count", i)
		}
	}
}

func TestTagOfNoParts(t *testing.T) {
	want := wantTag(sampleKey(), nil)
	if Tag(sampleKey()) != want || Tag(sampleKey(), nil) != want || Tag(sampleKey(), []byte{}, nil) != want {
		t.Error("no parts, nil parts and empty parts have unlike tags")
	}
}

// P1.2

func TestNewHasNoBytes(t *testing.T) {
	h := New()
	if h == nil {
		t.Fatal("New answers nil")
	}
	if got := hex(h.Sum()); got != noBytes {
		t.Errorf("Sum of New: %s", got)
	}
}

func TestWritePutsBytesBehind(t *testing.T) {
	h := New()
	h.Write([]byte("a"))
	h.Write([]byte("bc"))
	if got := hex(h.Sum()); got != "ba7816bf8f01cfea414140de5dae2223b00361a396177a9cb410ff61f20015ad" {
		t.Errorf("a, then bc: %s", got)
	}
}

func TestSumLeavesTheHashAsItIs(t *testing.T) {
	for _, n := range lengths() {
		for _, more := range lengths() {
			b := sample(n + more)
			h := New()
			h.Write(b[:n])
			first, again := h.Sum(), h.Sum()
			if want := api.Digest(sha256.Sum256(b[:n])); first != want || again != want {
				t.Errorf("%d bytes: %x, then %x, want %x", n, first, again, want)
			}
			h.Write(b[n:])
			if got, want := h.Sum(), api.Digest(sha256.Sum256(b)); got != want {
				t.Errorf("%d bytes, Sum, %d more: %x, want %x", n, more, got, want)
			}
		}
	}
}

func TestSumBehindEveryByte(t *testing.T) {
	b := sample(200)
	h := New()
	for n := range b {
		h.Write(b[n : n+1])
		if got, want := h.Sum(), api.Digest(sha256.Sum256(b[:n+1])); got != want {
			t.Errorf("behind byte %d: %x, want %x", n, got, want)
		}
	}
}

// P1.3

func TestEqual(t *testing.T) {
	if !Equal(api.Digest{}, api.Digest{}) || !Equal(sampleKey(), sampleKey()) {
		t.Error("like tags are told to be unlike")
	}
	if Equal(sampleKey(), api.Digest{}) || Equal(api.Digest{}, sampleKey()) {
		t.Error("unlike tags are told to be alike")
	}
}

func TestEqualSeesEveryBit(t *testing.T) {
	for i := range len(api.Digest{}) {
		for bit := range 8 {
			other := sampleKey()
			other[i] ^= 1 << bit
			if Equal(sampleKey(), other) || Equal(other, sampleKey()) {
				t.Errorf("bit %d of byte %d does not count", bit, i)
			}
		}
	}
}

func TestEqualOfDifferencesThatCancel(t *testing.T) {
	var a, b api.Digest
	a[0], a[31] = 1, 2
	b[0], b[31] = 2, 1
	if Equal(a, b) {
		t.Error("two bytes that have changed places don't count")
	}
	a, b = api.Digest{}, api.Digest{}
	for i := range b {
		b[i] = 0x10
	}
	if Equal(a, b) {
		t.Error("the same difference in all bytes does not count")
	}
}

// P1.4

func TestCutsIntoTwoNeverShow(t *testing.T) {
	for _, n := range lengths() {
		b := sample(n)
		for at := range n + 1 {
			checkCut(t, b, b[:at], b[at:])
		}
	}
}

func TestCutsIntoManyNeverShow(t *testing.T) {
	for _, n := range lengths() {
		b := sample(n)
		checkCut(t, b, nil, b)
		checkCut(t, b, b, nil)
		checkCut(t, b, []byte{}, nil, b, []byte{}, nil)
		for size := 1; size < 70; size++ {
			var parts [][]byte
			for at := 0; at < n; at += size {
				parts = append(parts, b[at:min(at+size, n)], nil)
			}
			checkCut(t, b, parts...)
		}
	}
}

// checkCut holds Sum, Tag and Write of the parts against those of the whole.
func checkCut(t *testing.T, whole []byte, parts ...[]byte) {
	t.Helper()
	want := api.Digest(sha256.Sum256(whole))
	h := New()
	for _, part := range parts {
		h.Write(part)
	}
	if got := h.Sum(); got != want {
		t.Errorf("Write of %d bytes in %d parts: %x, want %x", len(whole), len(parts), got, want)
	}
	if got := Sum(parts...); got != want {
		t.Errorf("Sum of %d bytes in %d parts: %x, want %x", len(whole), len(parts), got, want)
	}
	if got, want := Tag(sampleKey(), parts...), wantTag(sampleKey(), whole); got != want {
		t.Errorf("Tag of %d bytes in %d parts: %x, want %x", len(whole), len(parts), got, want)
	}
}

func TestNilHash(t *testing.T) {
	var h *Hash
	if got := hex(h.Sum()); got != noBytes {
		t.Errorf("Sum of a nil Hash: %s", got)
	}
	h.Write(nil)
	h.Write(sample(100))
	if got := hex(h.Sum()); got != noBytes {
		t.Errorf("Sum of a nil Hash behind a Write: %s", got)
	}
}

func TestZeroHash(t *testing.T) {
	for _, n := range lengths() {
		b := sample(n)
		var h Hash
		if got := hex(h.Sum()); got != noBytes {
			t.Errorf("Sum of the zero Hash: %s", got)
		}
		h.Write(nil)
		h.Write(b)
		if got, want := h.Sum(), api.Digest(sha256.Sum256(b)); got != want {
			t.Errorf("the zero Hash and %d bytes: %x, want %x", n, got, want)
		}
	}
}

// R5 and R7

func TestBytesHandedInStayAsTheyAre(t *testing.T) {
	for _, n := range lengths() {
		room := sample(n + 200)
		kept := bytes.Clone(room)
		parts := [][]byte{room[:n/2], room[n/2 : n], nil}
		h := New()
		h.Write(room[:n])
		h.Sum()
		Sum(parts...)
		key := sampleKey()
		Tag(key, parts...)
		Equal(key, key)
		if !bytes.Equal(room, kept) {
			t.Errorf("%d bytes, or the room behind them, have changed", n)
		}
		if len(parts[0]) != n/2 || len(parts[1]) != n-n/2 || parts[2] != nil {
			t.Errorf("the parts of %d bytes have changed", n)
		}
	}
}

func TestBytesHandedInAreNotKept(t *testing.T) {
	for _, n := range lengths() {
		b := sample(n)
		want := api.Digest(sha256.Sum256(b))
		h := New()
		h.Write(b)
		clear(b)
		if got := h.Sum(); got != want {
			t.Errorf("%d bytes that changed behind Write: %x, want %x", n, got, want)
		}
	}
}

func TestHashesDoNotHangOnOneAnother(t *testing.T) {
	b := sample(130)
	one, two := New(), New()
	one.Write(b[:65])
	two.Write(b[65:])
	three := *one
	three.Write(b[65:])
	for i, c := range []struct{ got, want api.Digest }{
		{one.Sum(), sha256.Sum256(b[:65])},
		{two.Sum(), sha256.Sum256(b[65:])},
		{three.Sum(), sha256.Sum256(b)},
	} {
		if c.got != c.want {
			t.Errorf("hash %d: %x, want %x", i, c.got, c.want)
		}
	}
}
