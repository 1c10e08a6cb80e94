package codec

import (
	"bytes"
	"encoding/binary"
	"math"
	"testing"

	"skirmish/api"
)

// P2.1

// numbers answers those around every edge of sevens of bits, and of the range.
func numbers() []uint64 {
	out := []uint64{0, 1, 2, 127, 128, 129, 300, math.MaxInt64}
	for i := 1; i < 63; i++ {
		out = append(out, 1<<i-1, 1<<i, 1<<i+1)
	}
	return out
}

// signedNumbers answers both signs of numbers.
func signedNumbers() []int64 {
	out := []int64{0}
	for _, n := range numbers() {
		if n > 0 {
			out = append(out, int64(n), -int64(n))
		}
	}
	return out
}

// folded is what the chapter says of a signed number, reckoned otherwise than by the package.
func folded(n int64) uint64 {
	if n < 0 {
		return uint64(-(n+1))*2 + 3
	}
	return uint64(n) * 2
}

func TestNumberKnownAnswers(t *testing.T) {
	for _, c := range []struct {
		n    uint64
		want []byte
	}{
		{0, []byte{0}},
		{1, []byte{1}},
		{127, []byte{127}},
		{128, []byte{128, 1}},
		{300, []byte{172, 2}},
		{16383, []byte{255, 127}},
		{16384, []byte{128, 128, 1}},
		{math.MaxInt64, []byte{255, 255, 255, 255, 255, 255, 255, 255, 127}},
	} {
		b, e := Number(nil, c.n)
		if !bytes.Equal(b, c.want) || e != api.OK {
			t.Errorf("Number(%d): %v, %d, want %v", c.n, b, e, c.want)
		}
	}
}

func TestNumberThereAndBack(t *testing.T) {
	for _, n := range numbers() {
		b, e := Number([]byte{9, 8}, n)
		if want := binary.AppendUvarint([]byte{9, 8}, n); !bytes.Equal(b, want) || e != api.OK {
			t.Errorf("Number(%d): %v, %d, want %v", n, b, e, want)
			continue
		}
		got, rest, e := ReadNumber(append(b[2:], 200, 7))
		if got != n || !bytes.Equal(rest, []byte{200, 7}) || e != api.OK {
			t.Errorf("ReadNumber of %d's bytes: %d, %v, %d", n, got, rest, e)
		}
		if got, rest, e = ReadNumber(b[2:]); got != n || len(rest) != 0 || e != api.OK {
			t.Errorf("ReadNumber of %d's bytes alone: %d, %v, %d", n, got, rest, e)
		}
	}
}

func TestNumberAboveTheRange(t *testing.T) {
	for _, n := range []uint64{1 << 63, 1<<63 + 1, math.MaxUint64} {
		if b, e := Number([]byte{1}, n); len(b) != 0 || e != api.ErrRange {
			t.Errorf("Number(%d): %v, %d", n, b, e)
		}
		if got, rest, e := ReadNumber(binary.AppendUvarint(nil, n)); got != 0 || len(rest) != 0 || e != api.ErrBad {
			t.Errorf("ReadNumber of %d's bytes: %d, %v, %d", n, got, rest, e)
		}
	}
}

// wrongNumbers answers bytes that begin with no number's, of up to 64 bits.
func wrongNumbers() [][]byte {
	out := [][]byte{nil, {}}
	for size := 1; size < 13; size++ {
		unended := bytes.Repeat([]byte{128}, size)
		out = append(out, unended, bytes.Repeat([]byte{255}, size))
		out = append(out, append(bytes.Clone(unended), 0), append(bytes.Clone(unended), 0, 1))
	}
	for _, last := range []byte{2, 3, 64, 127} {
		out = append(out, append(bytes.Repeat([]byte{255}, 9), last))
		out = append(out, append(bytes.Repeat([]byte{128}, 9), last))
	}
	for size := 10; size < 13; size++ {
		out = append(out, append(bytes.Repeat([]byte{128}, size), 1))
		out = append(out, append(bytes.Repeat([]byte{129}, size), 1))
	}
	return out
}

func TestReadNumberOfWrongBytes(t *testing.T) {
	for _, b := range wrongNumbers() {
		if n, rest, e := ReadNumber(b); n != 0 || len(rest) != 0 || e != api.ErrBad {
			t.Errorf("ReadNumber(%v): %d, %v, %d", b, n, rest, e)
		}
	}
}

func TestSignedKnownAnswers(t *testing.T) {
	for _, c := range []struct {
		n    int64
		want []byte
	}{
		{0, []byte{0}},
		{-1, []byte{3}},
		{1, []byte{2}},
		{-63, []byte{127}},
		{63, []byte{126}},
		{64, []byte{128, 1}},
		{-64, []byte{129, 1}},
		{math.MaxInt64, []byte{254, 255, 255, 255, 255, 255, 255, 255, 255, 1}},
		{math.MinInt64 + 1, []byte{255, 255, 255, 255, 255, 255, 255, 255, 255, 1}},
	} {
		if b, e := Signed(nil, c.n); !bytes.Equal(b, c.want) || e != api.OK {
			t.Errorf("Signed(%d): %v, %d, want %v", c.n, b, e, c.want)
		}
	}
}

func TestSignedThereAndBack(t *testing.T) {
	for _, n := range signedNumbers() {
		b, e := Signed([]byte{9, 8}, n)
		if want := binary.AppendUvarint([]byte{9, 8}, folded(n)); !bytes.Equal(b, want) || e != api.OK {
			t.Errorf("Signed(%d): %v, %d, want %v", n, b, e, want)
			continue
		}
		got, rest, e := ReadSigned(append(b[2:], 200, 7))
		if got != n || !bytes.Equal(rest, []byte{200, 7}) || e != api.OK {
			t.Errorf("ReadSigned of %d's bytes: %d, %v, %d", n, got, rest, e)
		}
	}
}

func TestSignedOfTheLeast(t *testing.T) {
	if b, e := Signed([]byte{1}, math.MinInt64); len(b) != 0 || e != api.ErrRange {
		t.Errorf("Signed of the least: %v, %d", b, e)
	}
}

func TestReadSignedOfWrongBytes(t *testing.T) {
	for _, b := range append(wrongNumbers(), []byte{1}, []byte{1, 2}) {
		if n, rest, e := ReadSigned(b); n != 0 || len(rest) != 0 || e != api.ErrBad {
			t.Errorf("ReadSigned(%v): %d, %v, %d", b, n, rest, e)
		}
	}
}

// P2.4: every list of up to two bytes is a number's beginning in one way at most.
func TestShortBytesAreReadInOneWay(t *testing.T) {
	for x := range 1 << 16 {
		b := []byte{byte(x), byte(x >> 8)}
		if n, rest, e := ReadNumber(b); e == api.OK {
			if again, _ := Number(nil, n); !bytes.Equal(append(again, rest...), b) {
				t.Errorf("ReadNumber(%v): %d, which is written %v", b, n, again)
			}
		}
		if n, rest, e := ReadSigned(b); e == api.OK {
			if again, _ := Signed(nil, n); !bytes.Equal(append(again, rest...), b) {
				t.Errorf("ReadSigned(%v): %d, which is written %v", b, n, again)
			}
		}
	}
}

// R5
func TestNumbersLeaveWhatIsHandedIn(t *testing.T) {
	room := []byte{5, 6, 7, 7, 7, 7}
	for _, b := range [][]byte{room[:0], room[:2]} {
		first, _ := Number(b, 300)
		second, _ := Signed(b, 300)
		first[0], second[0] = 99, 99
		if !bytes.Equal(room, []byte{5, 6, 7, 7, 7, 7}) {
			t.Fatalf("bytes that were handed in became %v", room)
		}
	}
	_, rest, _ := ReadNumber(room)
	rest[0] = 99
	_ = append(rest[:1], 99)
	_, rest, _ = ReadSigned(room)
	rest[0] = 99
	_ = append(rest[:1], 99)
	if !bytes.Equal(room, []byte{5, 6, 7, 7, 7, 7}) {
		t.Errorf("an answer shares memory with what was handed in: %v", room)
	}
}
