package sha

import (
	"crypto/sha256"
	"encoding"
	"encoding/binary"
	"go/ast"
	"go/parser"
	"go/token"
	"math/big"
	"testing"

	"skirmish/api"
)

// rootBits answers the first 32 bits behind the point of n's root of that degree.
func rootBits(n int64, degree int) uint32 {
	limit := new(big.Int).Lsh(big.NewInt(n), uint(32*degree))
	root := new(big.Int)
	for bit := 40; bit >= 0; bit-- {
		root.SetBit(root, bit, 1)
		if new(big.Int).Exp(root, big.NewInt(int64(degree)), nil).Cmp(limit) > 0 {
			root.SetBit(root, bit, 0)
		}
	}
	return uint32(root.Uint64())
}

func primes(count int) []int64 {
	var out []int64
	for n := int64(2); len(out) < count; n++ {
		if big.NewInt(n).ProbablyPrime(10) {
			out = append(out, n)
		}
	}
	return out
}

func TestWordsFollowFromPrimes(t *testing.T) {
	for i, p := range primes(64) {
		if want := rootBits(p, 3); roundWords[i] != want {
			t.Errorf("K(%d): %08x, want %08x", i, roundWords[i], want)
		}
	}
	for i, p := range primes(8) {
		if want := rootBits(p, 2); firstHash()[i] != want {
			t.Errorf("word %d of the first hash: %08x, want %08x", i, firstHash()[i], want)
		}
	}
	if roundWords[0] != 0x428a2f98 || firstHash()[0] != 0x6a09e667 {
		t.Error("the first words are not those of the examples")
	}
}

// TestLongLengths starts in the midst of long bytes, as writing them all would take too long.
func TestLongLengths(t *testing.T) {
	for _, length := range []uint64{1 << 12, 1 << 20, 1<<29 - 64, 1 << 29, 1<<31 - 1, 1 << 31, 1 << 40, 1<<50 + 63} {
		h := Hash{words: firstHash(), length: length}
		known := sha256.New()
		state := []byte("sha\x03")
		for _, word := range h.words {
			state = binary.BigEndian.AppendUint32(state, word)
		}
		state = append(state, h.block[:]...)
		state = binary.BigEndian.AppendUint64(state, length)
		if err := known.(encoding.BinaryUnmarshaler).UnmarshalBinary(state); err != nil {
			t.Fatal(err)
		}
		for _, more := range []int{0, 1, 100} {
			h.Write(sample(more))
			known.Write(sample(more))
			if got, want := h.Sum(), api.Digest(known.Sum(nil)); got != want {
				t.Errorf("%d bytes and %d more: %x, want %x", length, more, got, want)
			}
		}
	}
}

// TestStepsOfEqual looks at the text, since no answer shows how many steps were taken:
// one loop over all bytes, one return, and nothing that could leave or branch in between.
func TestStepsOfEqual(t *testing.T) {
	file, err := parser.ParseFile(token.NewFileSet(), "sha.go", nil, 0)
	if err != nil {
		t.Fatal(err)
	}
	body := bodyOf(file, "Equal")
	if body == nil {
		t.Fatal("no function Equal")
	}
	returns := 0
	ast.Inspect(body, func(n ast.Node) bool {
		switch x := n.(type) {
		case *ast.ReturnStmt:
			returns++
		case *ast.IfStmt, *ast.SwitchStmt, *ast.BranchStmt, *ast.ForStmt, *ast.DeferStmt:
			t.Errorf("Equal has a %T", x)
		case *ast.CallExpr:
			if name, ok := x.Fun.(*ast.Ident); !ok || name.Name != "len" {
				t.Error("Equal calls something whose steps are not seen here")
			}
		case *ast.BinaryExpr:
			checkComparison(t, x)
		}
		return true
	})
	if returns != 1 {
		t.Errorf("Equal has %d returns", returns)
	}
}

// checkComparison allows no comparison but with a number, which is of one byte.
func checkComparison(t *testing.T, x *ast.BinaryExpr) {
	switch x.Op {
	case token.LAND, token.LOR:
		t.Errorf("Equal has %s, which may skip its right side", x.Op)
	case token.EQL, token.NEQ:
		if _, ok := x.Y.(*ast.BasicLit); !ok {
			t.Error("Equal compares with something else than a number")
		}
	}
}

func bodyOf(file *ast.File, name string) *ast.BlockStmt {
	for _, d := range file.Decls {
		if f, ok := d.(*ast.FuncDecl); ok && f.Recv == nil && f.Name.Name == name {
			return f.Body
		}
	}
	return nil
}
