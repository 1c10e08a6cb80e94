package codec

import (
	"bytes"
	"math"
	"math/rand"
	"reflect"
	"testing"

	"skirmish/api"
)

const mostUnit = 1<<31 - 1

func digest(first byte) api.Digest {
	var d api.Digest
	for i := range d {
		d[i] = first + byte(i)
	}
	return d
}

func flat(parts ...[]byte) []byte {
	return bytes.Join(parts, nil)
}

func digestBytes(first byte) []byte {
	d := digest(first)
	return d[:]
}

// formedCommands answers one of each kind, and those at the edges.
func formedCommands() []api.Command {
	return []api.Command{
		{Kind: api.Move, Unit: 7, Cell: api.Cell{X: 2, Y: 3}},
		{Kind: api.Attack, Unit: 8, Target: 300},
		{Kind: api.Gather, Unit: 9, Cell: api.Cell{X: 4, Y: 5}},
		{Kind: api.Train, Unit: 10, What: api.Soldier},
		{Kind: api.Stop, Unit: 11},
		{Kind: api.Resign},
		{Kind: api.Move},
		{Kind: api.Move, Unit: mostUnit, Cell: api.Cell{X: 19, Y: 19}},
		{Kind: api.Attack, Unit: mostUnit, Target: mostUnit},
		{Kind: api.Attack},
		{Kind: api.Gather, Cell: api.Cell{X: 19}},
		{Kind: api.Train, Unit: mostUnit, What: api.Scout},
		{Kind: api.Train},
		{Kind: api.Stop, Unit: mostUnit},
		{Kind: api.Stop},
	}
}

func sampleSealed() api.Sealed {
	return api.Sealed{Match: 1, Player: 2, Turn: 3, Commands: formedCommands()[:5], Tag: digest(40)}
}

func emptySealed() api.Sealed {
	return api.Sealed{Match: math.MaxInt64, Player: 3, Turn: 59, Empty: true, Tag: digest(80)}
}

func sampleBlock() api.Block {
	return api.Block{Turn: 4, Prev: digest(1), Root: digest(2), State: digest(3), All: []api.Sealed{sampleSealed(), emptySealed()}}
}

func sampleResult() api.Result {
	return api.Result{Match: 300, Turns: 6, Winner: 2, Last: digest(5), Tag: digest(6)}
}

// sealedOf answers sealed commands whose only command is c.
func sealedOf(c api.Command) api.Sealed {
	return api.Sealed{Commands: []api.Command{c}}
}

// P2.2

func TestFormedCommands(t *testing.T) {
	for _, c := range formedCommands() {
		if !Formed(c) {
			t.Errorf("%+v isn't formed", c)
		}
	}
}

// setField answers c with one field set: the fields are counted as they are written.
func setField(c api.Command, field, value int) api.Command {
	switch field {
	case 0:
		c.Unit = value
	case 1:
		c.Target = value
	case 2:
		c.What = value
	case 3:
		c.Cell.X = value
	case 4:
		c.Cell.Y = value
	}
	return c
}

func TestFormedAtEveryEdge(t *testing.T) {
	named := map[int][5]bool{
		api.Move:   {true, false, false, true, true},
		api.Attack: {true, true, false, false, false},
		api.Gather: {true, false, false, true, true},
		api.Train:  {true, false, true, false, false},
		api.Stop:   {true, false, false, false, false},
		api.Resign: {},
	}
	most := [5]int{mostUnit, mostUnit, 4, 19, 19}
	for kind := -2; kind < 10; kind++ {
		if got := Formed(api.Command{Kind: kind}); got != (kind >= 1 && kind <= 6) {
			t.Errorf("a bare command of kind %d: %v", kind, got)
		}
		for field := range most {
			for _, value := range []int{math.MinInt, -mostUnit, -1, 1, most[field] - 1, most[field], most[field] + 1, math.MaxInt} {
				c := setField(api.Command{Kind: kind}, field, value)
				want := named[kind][field] && value >= 0 && value <= most[field]
				if Formed(c) != want {
					t.Errorf("%+v is formed: %v, want %v", c, !want, want)
				}
				if b, e := Body(sealedOf(c)); (e == api.OK) != want || !want && (e != api.ErrForm || len(b) != 0) {
					t.Errorf("Body with %+v: %v, %d", c, b, e)
				}
			}
		}
	}
	for _, kind := range []int{math.MinInt, math.MaxInt} {
		if Formed(api.Command{Kind: kind}) {
			t.Errorf("a command of kind %d is formed", kind)
		}
	}
}

func TestBodyKnownAnswers(t *testing.T) {
	for _, c := range []struct {
		s    api.Sealed
		want []byte
	}{
		{api.Sealed{}, []byte{0, 0, 0, 0, 0}},
		{api.Sealed{Match: 300, Player: 3, Turn: 59, Empty: true}, []byte{172, 2, 3, 59, 1, 0}},
		{sampleSealed(), []byte{1, 2, 3, 0, 5, 1, 7, 2, 3, 2, 8, 172, 2, 3, 9, 4, 5, 4, 10, 3, 5, 11}},
		{sealedOf(api.Command{Kind: api.Resign}), []byte{0, 0, 0, 0, 1, 6}},
		{sealedOf(api.Command{Kind: api.Attack, Unit: mostUnit, Target: 1}), []byte{0, 0, 0, 0, 1, 2, 255, 255, 255, 255, 7, 1}},
	} {
		if b, e := Body(c.s); !bytes.Equal(b, c.want) || e != api.OK {
			t.Errorf("Body(%+v): %v, %d, want %v", c.s, b, e, c.want)
		}
		if b, e := Sealed(c.s); !bytes.Equal(b, flat(c.want, c.s.Tag[:])) || e != api.OK {
			t.Errorf("Sealed(%+v): %v, %d", c.s, b, e)
		}
	}
}

// edgeSealed answers sealed commands at the edges of what is formed.
func edgeSealed() []api.Sealed {
	return []api.Sealed{
		{}, sampleSealed(), emptySealed(),
		{Match: math.MaxInt64}, {Player: 3}, {Turn: 59}, {Empty: true}, {Empty: true, Commands: []api.Command{}},
		{Commands: formedCommands()[5:10]}, {Commands: formedCommands()[10:]},
	}
}

// wrongSealed answers sealed commands that aren't formed, each by one thing.
func wrongSealed() []api.Sealed {
	six := append(formedCommands()[:5:5], api.Command{Kind: api.Resign})
	return []api.Sealed{
		{Match: 1 << 63}, {Match: math.MaxUint64},
		{Player: -1}, {Player: 4}, {Player: math.MinInt}, {Player: math.MaxInt},
		{Turn: -1}, {Turn: 60}, {Turn: math.MinInt}, {Turn: math.MaxInt},
		{Commands: six},
		{Empty: true, Commands: []api.Command{{Kind: api.Resign}}},
		sealedOf(api.Command{}), sealedOf(api.Command{Kind: 7}), sealedOf(api.Command{Kind: api.Stop, What: 1}),
		{Commands: []api.Command{{Kind: api.Resign}, {Kind: api.Move, Unit: -1}}},
	}
}

func TestSealedThatIsNotFormed(t *testing.T) {
	for _, s := range wrongSealed() {
		if b, e := Body(s); len(b) != 0 || e != api.ErrForm {
			t.Errorf("Body(%+v): %v, %d", s, b, e)
		}
		if b, e := Sealed(s); len(b) != 0 || e != api.ErrForm {
			t.Errorf("Sealed(%+v): %v, %d", s, b, e)
		}
		if b, e := Block(api.Block{All: []api.Sealed{{}, s}}); len(b) != 0 || e != api.ErrForm {
			t.Errorf("Block of %+v: %v, %d", s, b, e)
		}
		if b, e := Replay([]api.Block{sampleBlock(), {All: []api.Sealed{s}}}); len(b) != 0 || e != api.ErrForm {
			t.Errorf("Replay of %+v: %v, %d", s, b, e)
		}
	}
}

func TestBlockBytes(t *testing.T) {
	first, _ := Sealed(sampleSealed())
	second, _ := Sealed(emptySealed())
	want := flat([]byte{4}, digestBytes(1), digestBytes(2), digestBytes(3), []byte{2}, first, second)
	if b, e := Block(sampleBlock()); !bytes.Equal(b, want) || e != api.OK {
		t.Errorf("Block: %v, %d, want %v", b, e, want)
	}
}

// edgeBlocks answers blocks at the edges of what is formed.
func edgeBlocks() []api.Block {
	return []api.Block{
		sampleBlock(),
		{All: []api.Sealed{{}}},
		{Turn: 59, All: []api.Sealed{{}, {}, emptySealed(), sampleSealed()}},
		{Turn: 1, All: []api.Sealed{{Turn: 2, Player: 3}}},
	}
}

// wrongBlocks answers blocks that aren't formed, though all that is sealed in them is.
func wrongBlocks() []api.Block {
	return []api.Block{
		{}, {All: []api.Sealed{}}, {All: make([]api.Sealed, 5)},
		{Turn: -1, All: []api.Sealed{{}}}, {Turn: 60, All: []api.Sealed{{}}},
		{Turn: math.MinInt, All: []api.Sealed{{}}}, {Turn: math.MaxInt, All: []api.Sealed{{}}},
	}
}

func TestBlockThatIsNotFormed(t *testing.T) {
	for _, k := range wrongBlocks() {
		if b, e := Block(k); len(b) != 0 || e != api.ErrForm {
			t.Errorf("Block(%+v): %v, %d", k, b, e)
		}
		if b, e := Replay([]api.Block{k}); len(b) != 0 || e != api.ErrForm {
			t.Errorf("Replay of %+v: %v, %d", k, b, e)
		}
	}
}

func TestResultBytes(t *testing.T) {
	for winner := -1; winner < 4; winner++ {
		r := sampleResult()
		r.Winner = winner
		want := flat([]byte{172, 2, 6, byte(winner + 1)}, digestBytes(5))
		if b, e := Claim(r); !bytes.Equal(b, want) || e != api.OK {
			t.Errorf("Claim(%+v): %v, %d, want %v", r, b, e, want)
		}
		if b, e := Result(r); !bytes.Equal(b, flat(want, digestBytes(6))) || e != api.OK {
			t.Errorf("Result(%+v): %v, %d", r, b, e)
		}
	}
}

// edgeResults answers results at the edges of what is formed.
func edgeResults() []api.Result {
	return []api.Result{sampleResult(), {}, {Match: math.MaxInt64}, {Turns: 60}, {Winner: -1}, {Winner: 3}}
}

// wrongResults answers results that aren't formed, each by one thing.
func wrongResults() []api.Result {
	return []api.Result{
		{Match: 1 << 63}, {Match: math.MaxUint64},
		{Turns: -1}, {Turns: 61}, {Turns: math.MinInt}, {Turns: math.MaxInt},
		{Winner: -2}, {Winner: 4}, {Winner: math.MinInt}, {Winner: math.MaxInt},
	}
}

func TestResultThatIsNotFormed(t *testing.T) {
	for _, r := range wrongResults() {
		if b, e := Claim(r); len(b) != 0 || e != api.ErrForm {
			t.Errorf("Claim(%+v): %v, %d", r, b, e)
		}
		if b, e := Result(r); len(b) != 0 || e != api.ErrForm {
			t.Errorf("Result(%+v): %v, %d", r, b, e)
		}
	}
}

func TestReplayBytes(t *testing.T) {
	one, _ := Block(sampleBlock())
	for _, count := range []int{0, 1, 2, 60} {
		var l []api.Block
		for range count {
			l = append(l, sampleBlock())
		}
		want := flat([]byte{byte(count)}, bytes.Repeat(one, count))
		if b, e := Replay(l); !bytes.Equal(b, want) || e != api.OK {
			t.Errorf("Replay of %d blocks: %v, %d", count, b, e)
		}
	}
	many := make([]api.Block, 61)
	for i := range many {
		many[i] = sampleBlock()
	}
	if b, e := Replay(many); len(b) != 0 || e != api.ErrForm {
		t.Errorf("Replay of 61 blocks: %d bytes, %d", len(b), e)
	}
}

// P2.3 and P2.4

// reading is a thing's way to bytes and back, for all kinds of things that are read whole.
type reading struct {
	name  string
	read  func([]byte) (any, api.Errno)
	write func(any) ([]byte, api.Errno)
	none  any
	edges []any
}

func way[T any](name string, read func([]byte) (T, api.Errno), write func(T) ([]byte, api.Errno), edges []T) reading {
	var none T
	w := reading{name: name, none: none}
	w.read = func(b []byte) (any, api.Errno) { return read(b) }
	w.write = func(x any) ([]byte, api.Errno) { return write(x.(T)) }
	for _, x := range edges {
		w.edges = append(w.edges, x)
	}
	return w
}

func readings() []reading {
	full := make([]api.Block, 60)
	for i := range full {
		full[i] = sampleBlock()
	}
	return []reading{
		way("ReadSealed", ReadSealed, Sealed, edgeSealed()),
		way("ReadBlock", ReadBlock, Block, edgeBlocks()),
		way("ReadResult", ReadResult, Result, edgeResults()),
		way("ReadReplay", ReadReplay, Replay, [][]api.Block{nil, {sampleBlock()}, edgeBlocks(), full}),
	}
}

// same tells whether two things are alike, where a nil list is an empty one.
func same(a, b any) bool {
	return reflect.DeepEqual(plain(a), plain(b))
}

func plain(x any) any {
	switch x := x.(type) {
	case api.Sealed:
		return plainSealed(x)
	case api.Block:
		return plainBlock(x)
	case []api.Block:
		out := []api.Block{}
		for _, k := range x {
			out = append(out, plainBlock(k))
		}
		return out
	}
	return x
}

func plainSealed(s api.Sealed) api.Sealed {
	s.Commands = append([]api.Command{}, s.Commands...)
	return s
}

func plainBlock(k api.Block) api.Block {
	all := []api.Sealed{}
	for _, s := range k.All {
		all = append(all, plainSealed(s))
	}
	k.All = all
	return k
}

func TestThereAndBack(t *testing.T) {
	for _, w := range readings() {
		for _, x := range w.edges {
			b, e := w.write(x)
			if e != api.OK {
				t.Errorf("%s: %+v isn't written: %d", w.name, x, e)
			}
			if got, e := w.read(b); !same(got, x) || e != api.OK {
				t.Errorf("%s of %+v's bytes: %+v, %d", w.name, x, got, e)
			}
		}
	}
	for _, c := range formedCommands() {
		b, _ := Sealed(sealedOf(c))
		if got, e := ReadSealed(b); !same(got, sealedOf(c)) || e != api.OK {
			t.Errorf("ReadSealed of %+v's bytes: %+v, %d", c, got, e)
		}
	}
}

// checkBad wants that b isn't read.
func (w reading) checkBad(t *testing.T, b []byte, want api.Errno) {
	t.Helper()
	if got, e := w.read(b); !same(got, w.none) || e != want {
		t.Errorf("%s of %d bytes: %+v, %d, want %d", w.name, len(b), got, e, want)
	}
}

// checkOneWay wants that b, if it is read, is what the thing is written as.
func (w reading) checkOneWay(t *testing.T, b []byte) {
	t.Helper()
	got, e := w.read(b)
	if e == api.ErrBad {
		if !same(got, w.none) {
			t.Errorf("%s(%v): %+v beside an error", w.name, b, got)
		}
		return
	}
	if again, wrong := w.write(got); e != api.OK || wrong != api.OK || !bytes.Equal(again, b) {
		t.Errorf("%s(%v): %+v, %d, which is written as %v, %d", w.name, b, got, e, again, wrong)
	}
}

func TestCutOrLongerBytesAreBad(t *testing.T) {
	for _, w := range readings() {
		w.checkBad(t, append([]byte{255}, make([]byte, 200)...), api.ErrBad)
		for _, x := range w.edges {
			b, _ := w.write(x)
			for _, extra := range [][]byte{{0}, {1}, {128}, b} {
				w.checkBad(t, flat(b, extra), api.ErrBad)
			}
			for size := 0; size < min(len(b), 700); size++ {
				w.checkBad(t, b[:size:size], api.ErrBad)
			}
		}
	}
}

func TestTooLongBytes(t *testing.T) {
	for _, w := range readings() {
		for _, x := range w.edges {
			b, _ := w.write(x)
			room := make([]byte, api.MaxReplay+1)
			copy(room, b)
			w.checkBad(t, room[:api.MaxReplay], api.ErrBad)
			w.checkBad(t, room, api.ErrLong)
		}
	}
}

func TestNothingElseIsReadSo(t *testing.T) {
	random := rand.New(rand.NewSource(2))
	for _, w := range readings() {
		for _, x := range w.edges {
			b, _ := w.write(x)
			if len(b) > 1000 {
				continue // the longest ones say nothing here that shorter ones don't
			}
			for i := range b {
				for value := range 256 {
					turned := bytes.Clone(b)
					turned[i] = byte(value)
					w.checkOneWay(t, turned)
				}
			}
			for range 200 {
				mixed := bytes.Clone(b)
				for range 1 + random.Intn(4) {
					mixed[random.Intn(len(mixed))] = byte(random.Intn(200))
				}
				w.checkOneWay(t, mixed)
			}
		}
	}
}

// A number that is written with a byte too many is bad wherever it stands.
func TestLongerNumbersAreBad(t *testing.T) {
	tag := digestBytes(40)
	body := []byte{1, 2, 3, 0, 3, 1, 7, 2, 3, 2, 8, 9, 4, 10, 3}
	sealed := way("ReadSealed", ReadSealed, Sealed, nil)
	if _, e := ReadSealed(flat(body, tag)); e != api.OK {
		t.Fatalf("bytes as they should be: %d", e)
	}
	for i := range body {
		sealed.checkBad(t, flat(body[:i], []byte{body[i] | 128, 0}, body[i+1:], tag), api.ErrBad)
	}
	result := way("ReadResult", ReadResult, Result, nil)
	for i, head := 0, []byte{1, 2, 3}; i < len(head); i++ {
		result.checkBad(t, flat(head[:i], []byte{head[i] | 128, 0}, head[i+1:], tag, tag), api.ErrBad)
	}
}

// rawSealed answers bytes in the form of sealed commands, of numbers that may be out of range.
func rawSealed(match, player, turn, empty uint64, commands ...[]uint64) []byte {
	b := appendSevens(nil, match)
	for _, n := range []uint64{player, turn, empty, uint64(len(commands))} {
		b = appendSevens(b, n)
	}
	for _, c := range commands {
		for _, n := range c {
			b = appendSevens(b, n)
		}
	}
	return append(b, digestBytes(40)...)
}

func TestReadSealedThatIsNotFormed(t *testing.T) {
	sealed := way("ReadSealed", ReadSealed, Sealed, nil)
	resign, stop := []uint64{6}, []uint64{5, 1}
	if _, e := ReadSealed(rawSealed(math.MaxInt64, 3, 59, 0, resign, stop, stop, stop, stop)); e != api.OK {
		t.Fatalf("bytes as they should be: %d", e)
	}
	for _, b := range [][]byte{
		rawSealed(1<<63, 0, 0, 0), rawSealed(math.MaxUint64, 0, 0, 0),
		rawSealed(0, 4, 0, 0), rawSealed(0, 0, 60, 0), rawSealed(0, 0, 0, 2),
		rawSealed(0, 1<<32, 0, 0), rawSealed(0, 0, 1<<32, 0), rawSealed(0, 0, 0, 1<<32),
		rawSealed(0, 0, 0, 0, stop, stop, stop, stop, stop, stop),
		rawSealed(0, 0, 0, 1, resign),
		rawSealed(0, 0, 0, 0, []uint64{0}), rawSealed(0, 0, 0, 0, []uint64{7}), rawSealed(0, 0, 0, 0, []uint64{1<<32 + 6}),
		rawSealed(0, 0, 0, 0, []uint64{1, 1 << 31, 0, 0}), rawSealed(0, 0, 0, 0, []uint64{1, 0, 20, 0}), rawSealed(0, 0, 0, 0, []uint64{1, 0, 0, 20}),
		rawSealed(0, 0, 0, 0, []uint64{2, 1 << 31, 0}), rawSealed(0, 0, 0, 0, []uint64{2, 0, 1 << 31}),
		rawSealed(0, 0, 0, 0, []uint64{3, 0, 20, 0}), rawSealed(0, 0, 0, 0, []uint64{3, 0, 0, 20}),
		rawSealed(0, 0, 0, 0, []uint64{4, 0, 5}), rawSealed(0, 0, 0, 0, []uint64{4, 1 << 63, 1}),
		rawSealed(0, 0, 0, 0, []uint64{5, 1 << 31}), rawSealed(0, 0, 0, 0, []uint64{5, 1<<63 + 1}),
		rawSealed(0, 0, 0, 0, []uint64{6, 0}), rawSealed(0, 0, 0, 0, []uint64{5, 0, 0}),
	} {
		sealed.checkBad(t, b, api.ErrBad)
	}
}

func TestReadBlockThatIsNotFormed(t *testing.T) {
	block := way("ReadBlock", ReadBlock, Block, nil)
	digests := flat(digestBytes(1), digestBytes(2), digestBytes(3))
	one := rawSealed(0, 0, 0, 0)
	if _, e := ReadBlock(flat([]byte{59}, digests, []byte{4}, bytes.Repeat(one, 4))); e != api.OK {
		t.Fatalf("bytes as they should be: %d", e)
	}
	for _, b := range [][]byte{
		flat([]byte{60}, digests, []byte{1}, one),
		flat([]byte{0}, digests, []byte{0}),
		flat([]byte{0}, digests, []byte{5}, bytes.Repeat(one, 5)),
		flat([]byte{0}, digests, []byte{2}, one),
		flat([]byte{0}, digests, []byte{1}, rawSealed(0, 4, 0, 0)),
	} {
		block.checkBad(t, b, api.ErrBad)
	}
}

func TestReadReplayThatIsNotFormed(t *testing.T) {
	replay := way("ReadReplay", ReadReplay, Replay, nil)
	one, _ := Block(sampleBlock())
	without := flat([]byte{0}, make([]byte, 96), []byte{0})
	for _, b := range [][]byte{
		nil, {60}, {61}, {128, 1},
		flat([]byte{61}, bytes.Repeat(one, 61)),
		flat([]byte{2}, one), flat([]byte{1}, one, one), flat([]byte{2}, one, without),
	} {
		replay.checkBad(t, b, api.ErrBad)
	}
}

func TestReadResultThatIsNotFormed(t *testing.T) {
	result := way("ReadResult", ReadResult, Result, nil)
	tags := flat(digestBytes(5), digestBytes(6))
	for _, c := range []struct{ match, turns, winner uint64 }{
		{1 << 63, 0, 0}, {0, 61, 0}, {0, 0, 5}, {0, 1 << 32, 0}, {0, 0, 1 << 32}, {0, 0, math.MaxInt64},
	} {
		b := appendSevens(appendSevens(appendSevens(nil, c.match), c.turns), c.winner)
		result.checkBad(t, flat(b, tags), api.ErrBad)
	}
}

// R5

func TestBytesThatAreReadStayAndAreNotKept(t *testing.T) {
	for _, w := range readings() {
		for _, x := range w.edges {
			b, _ := w.write(x)
			was := bytes.Clone(b)
			got, _ := w.read(b)
			if !bytes.Equal(b, was) {
				t.Errorf("%s has changed what was handed in", w.name)
			}
			clear(b)
			if !same(got, x) {
				t.Errorf("%s keeps what was handed in", w.name)
			}
		}
	}
}

func TestThingsThatAreWrittenStay(t *testing.T) {
	l := []api.Block{sampleBlock(), sampleBlock()}
	first, _ := Replay(l)
	if !same(l, []api.Block{sampleBlock(), sampleBlock()}) {
		t.Error("Replay has changed what was handed in")
	}
	was := bytes.Clone(first)
	second, _ := Replay(l)
	clear(second)
	l[0].All[0].Commands[0].Unit = 99
	if !bytes.Equal(first, was) {
		t.Error("two answers share memory")
	}
}
