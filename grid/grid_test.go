package grid

import (
	"math"
	"slices"
	"strings"
	"testing"

	"skirmish/api"
)

func at(x, y int) api.Cell { return api.Cell{X: x, Y: y} }

func open(w, h int) api.Map {
	return api.Map{W: w, H: h, Tiles: make([]int, w*h), Ore: make([]int, w*h)}
}

func clone(m api.Map) api.Map {
	m.Tiles, m.Ore = slices.Clone(m.Tiles), slices.Clone(m.Ore)
	return m
}

func same(a, b api.Map) bool {
	return a.W == b.W && a.H == b.H && slices.Equal(a.Tiles, b.Tiles) && slices.Equal(a.Ore, b.Ore)
}

func isZero(m api.Map) bool {
	return m.W == 0 && m.H == 0 && len(m.Tiles) == 0 && len(m.Ore) == 0
}

func mustRead(t *testing.T, text string) api.Map {
	t.Helper()
	m, e := Read(text)
	if e != api.OK {
		t.Fatalf("Read(%q): %d", text, e)
	}
	return m
}

// scattered makes a map whose tiles follow from a number, about one in three a rock.
func scattered(w, h int, seed uint32) api.Map {
	m := open(w, h)
	for i := range m.Tiles {
		seed = seed*1664525 + 1013904223
		switch seed >> 16 % 6 {
		case 0, 1:
			m.Tiles[i] = api.Rock
		case 2:
			m.Tiles[i] = api.Ore
			m.Ore[i] = int(seed>>20%10) * 10
		}
	}
	return m
}

// unformed answers maps that aren't formed, by what is wrong with them.
func unformed() map[string]api.Map {
	out := map[string]api.Map{"zero": {}}
	for name, side := range map[string][2]int{
		"narrow": {3, 4}, "low": {4, 3}, "wide": {21, 4}, "high": {4, 21}, "no width": {0, 4}, "no height": {4, 0},
	} {
		out[name] = open(side[0], side[1])
	}
	with := func(name string, change func(m *api.Map)) {
		m := open(4, 5)
		m.Tiles[7], m.Ore[7] = api.Ore, 50
		change(&m)
		out[name] = m
	}
	with("negative sides", func(m *api.Map) { m.W, m.H = -4, -5 })
	with("huge sides", func(m *api.Map) { m.W, m.H = math.MaxInt, math.MaxInt })
	with("sides that wrap round", func(m *api.Map) { m.W, m.H = 1<<32, 1<<32 })
	with("least sides", func(m *api.Map) { m.W, m.H = math.MinInt, math.MinInt })
	with("few tiles", func(m *api.Map) { m.Tiles = m.Tiles[:19] })
	with("many tiles", func(m *api.Map) { m.Tiles = append(m.Tiles, 0) })
	with("no tiles", func(m *api.Map) { m.Tiles = nil })
	with("little ore", func(m *api.Map) { m.Ore = m.Ore[:19] })
	with("much ore", func(m *api.Map) { m.Ore = append(m.Ore, 0) })
	with("no ore", func(m *api.Map) { m.Ore = nil })
	with("both short", func(m *api.Map) { m.Tiles, m.Ore = m.Tiles[:16], m.Ore[:16] })
	with("unknown tile", func(m *api.Map) { m.Tiles[0] = 3 })
	with("unknown last tile", func(m *api.Map) { m.Tiles[19] = 3 })
	with("negative tile", func(m *api.Map) { m.Tiles[0] = -1 })
	with("ore in the open", func(m *api.Map) { m.Ore[0] = 10 })
	with("ore in a rock", func(m *api.Map) { m.Tiles[0], m.Ore[0] = api.Rock, 10 })
	with("less than no ore in the open", func(m *api.Map) { m.Ore[0] = -10 })
	with("less than no ore", func(m *api.Map) { m.Ore[7] = -10 })
	with("more ore than may be", func(m *api.Map) { m.Ore[7] = api.MaxOre + 1 })
	with("more ore than may be, at the end", func(m *api.Map) { m.Tiles[19], m.Ore[19] = api.Ore, api.MaxOre+1 })
	return out
}

// P5.1: Formed

func TestFormed(t *testing.T) {
	for w := api.MinSide; w <= api.MaxSide; w++ {
		for h := api.MinSide; h <= api.MaxSide; h++ {
			if !Formed(open(w, h)) || !Formed(scattered(w, h, uint32(w*100+h))) {
				t.Error(w, h)
			}
		}
	}
	m := open(4, 4)
	for _, ore := range []int{0, 1, 10, 99, 999, api.MaxOre} {
		m.Tiles[15], m.Ore[15] = api.Ore, ore
		if !Formed(m) {
			t.Error("ore", ore)
		}
	}
	for name, m := range unformed() {
		if Formed(m) {
			t.Error("formed:", name)
		}
	}
}

// P5.1: Read

func TestReadKnown(t *testing.T) {
	m := mustRead(t, "....\n....\n....\n....\n")
	if !same(m, open(4, 4)) {
		t.Error(m)
	}
	m = mustRead(t, ".#$1.\n23456\n789..\n....#\n")
	want := api.Map{W: 5, H: 4,
		Tiles: []int{0, 1, 2, 2, 0, 2, 2, 2, 2, 2, 2, 2, 2, 0, 0, 0, 0, 0, 0, 1},
		Ore:   []int{0, 0, 0, 10, 0, 20, 30, 40, 50, 60, 70, 80, 90, 0, 0, 0, 0, 0, 0, 0},
	}
	if !same(m, want) {
		t.Error(m)
	}
}

func TestReadSides(t *testing.T) {
	for w := 1; w <= api.MaxSide+3; w++ {
		for h := 1; h <= api.MaxSide+3; h++ {
			m, e := Read(strings.Repeat(strings.Repeat(".", w)+"\n", h))
			if w < 4 || w > 20 || h < 4 || h > 20 {
				if e != api.ErrForm || !isZero(m) {
					t.Error(w, h, e, m)
				}
			} else if e != api.OK || !same(m, open(w, h)) {
				t.Error(w, h, e, m)
			}
		}
	}
}

func TestReadSigns(t *testing.T) {
	for b := range 256 {
		text := "....\n..." + string([]byte{byte(b)}) + "\n....\n....\n"
		m, e := Read(text)
		if strings.IndexByte(".#$123456789", byte(b)) < 0 {
			if e != api.ErrForm || !isZero(m) {
				t.Error(b, e, m)
			}
		} else if back, f := Text(m); e != api.OK || f != api.OK || back != text {
			t.Error(b, e, f, back)
		}
	}
}

func TestReadWrong(t *testing.T) {
	for _, text := range []string{
		"", "\n", "\n\n\n\n", "....", "....\n",
		"....\n....\n....\n....",         // the last line isn't ended
		"....\n....\n....\n....\n\n",     // an empty row
		"\n....\n....\n....\n....\n",     // an empty row ahead
		"....\n....\n\n....\n....\n",     // one within
		"....\n...\n....\n....\n",        // a short row
		"....\n.....\n....\n....\n",      // a long one
		"....\n....\n....\n...\n",        // a short last one
		"....\n...\n.....\n....\n",       // a short one and a long one
		".....\n....\n....\n....\n",      // a long first one
		"....\n....\n....\n....\n.",      // a row begun
		"....\r\n....\r\n....\r\n....\r", // other ends of lines
		"....\n....\n..0.\n....\n",
		"....\n.. .\n....\n....\n",
		"....\n..é\n....\n....\n", // four bytes, three signs
		"................\n",
	} {
		if m, e := Read(text); e != api.ErrForm || !isZero(m) {
			t.Errorf("%q: %d %v", text, e, m)
		}
	}
}

func TestReadLong(t *testing.T) {
	for n, want := range map[int]api.Errno{999: api.ErrForm, 1000: api.ErrForm, 1001: api.ErrLong, 1 << 20: api.ErrLong} {
		for _, text := range []string{strings.Repeat(".", n), strings.Repeat("\n", n), strings.Repeat("\xff", n)} {
			if m, e := Read(text); e != want || !isZero(m) {
				t.Error(n, e, m)
			}
		}
	}
	// Both are wrong: too long is asked first, in bytes.
	if _, e := Read(strings.Repeat("é", 501)); e != api.ErrLong {
		t.Error(e)
	}
}

func TestReadIsNewMemory(t *testing.T) {
	const text = "..3.\n....\n....\n...#\n"
	a, b := mustRead(t, text), mustRead(t, text)
	keep := clone(b)
	for i := range a.Tiles {
		a.Tiles[i] = 7
	}
	_ = append(a.Tiles, 9, 9, 9)
	_ = append(a.Tiles[:2], 9, 9, 9)
	if a.Ore[2] != 30 || a.Ore[3] != 0 || !same(b, keep) {
		t.Error(a, b)
	}
}

// P5.1: Text

func TestTextAndBack(t *testing.T) {
	for w := api.MinSide; w <= api.MaxSide; w++ {
		for h := api.MinSide; h <= api.MaxSide; h++ {
			m := scattered(w, h, uint32(w*31+h))
			keep := clone(m)
			text, e := Text(m)
			if e != api.OK || len(text) != (w+1)*h || !same(m, keep) {
				t.Fatal(w, h, e, text)
			}
			if back := mustRead(t, text); !same(back, m) {
				t.Error(text, back)
			}
		}
	}
	m := open(4, 4)
	m.Tiles[1], m.Tiles[2], m.Tiles[7], m.Ore[7] = api.Rock, api.Ore, api.Ore, 90
	if text, e := Text(m); text != ".#$.\n...9\n....\n....\n" || e != api.OK {
		t.Error(text, e)
	}
}

func TestTextAmounts(t *testing.T) {
	m := open(4, 4)
	m.Tiles[15] = api.Ore
	for ore := -1; ore <= api.MaxOre+1; ore++ {
		m.Ore[15] = ore
		text, e := Text(m)
		if ore >= 0 && ore <= 90 && ore%10 == 0 {
			if sign := "$123456789"[ore/10]; e != api.OK || text[18] != sign {
				t.Error(ore, e, text)
			}
		} else if e != api.ErrForm || text != "" {
			t.Error(ore, e, text)
		}
	}
}

func TestTextUnformed(t *testing.T) {
	for name, m := range unformed() {
		if text, e := Text(m); e != api.ErrForm || text != "" {
			t.Error(name, e, text)
		}
	}
}

// P5.2: Inside, Free, Near, Dist

// strange are cells that are inside of no map, and whose neighbours aren't.
var strange = []api.Cell{
	{X: math.MaxInt, Y: 0}, {X: math.MinInt, Y: 0}, {X: 0, Y: math.MaxInt}, {X: 0, Y: math.MinInt},
	{X: math.MaxInt, Y: math.MaxInt}, {X: math.MinInt, Y: math.MinInt}, {X: 1 << 32, Y: 1 << 32}, {X: -2, Y: 0},
}

func TestInsideAndFree(t *testing.T) {
	m := mustRead(t, "..#..\n.$9..\n.....\n#...#\n")
	for y := -3; y <= 8; y++ {
		for x := -3; x <= 8; x++ {
			inside := x >= 0 && x <= 4 && y >= 0 && y <= 3
			rock := y == 0 && x == 2 || y == 3 && x == 0 || y == 3 && x == 4
			if Inside(m, at(x, y)) != inside {
				t.Error("Inside", x, y)
			}
			if Free(m, at(x, y)) != (inside && !rock) {
				t.Error("Free", x, y)
			}
		}
	}
	for _, c := range strange {
		if Inside(m, c) || Free(m, c) {
			t.Error(c)
		}
	}
}

func TestNearKnown(t *testing.T) {
	m := mustRead(t, "..#..\n.#9..\n..#..\n.....\n")
	for _, k := range []struct {
		c    api.Cell
		near []api.Cell
	}{
		{at(2, 1), []api.Cell{at(2, 0), at(3, 1), at(2, 2), at(1, 1)}}, // rocks are neighbours too
		{at(0, 0), []api.Cell{at(1, 0), at(0, 1)}},
		{at(4, 0), []api.Cell{at(4, 1), at(3, 0)}},
		{at(4, 3), []api.Cell{at(4, 2), at(3, 3)}},
		{at(0, 3), []api.Cell{at(0, 2), at(1, 3)}},
		{at(0, 1), []api.Cell{at(0, 0), at(1, 1), at(0, 2)}},
		{at(4, 1), []api.Cell{at(4, 0), at(4, 2), at(3, 1)}},
		{at(3, 0), []api.Cell{at(4, 0), at(3, 1), at(2, 0)}},
		{at(3, 3), []api.Cell{at(3, 2), at(4, 3), at(2, 3)}},
		// A cell outside has those that are inside.
		{at(-1, 2), []api.Cell{at(0, 2)}},
		{at(5, 2), []api.Cell{at(4, 2)}},
		{at(2, -1), []api.Cell{at(2, 0)}},
		{at(2, 4), []api.Cell{at(2, 3)}},
		{at(-1, -1), nil},
		{at(5, 4), nil},
	} {
		if got := Near(m, k.c); !slices.Equal(got, k.near) {
			t.Error(k.c, got)
		}
	}
	for _, c := range strange {
		if got := Near(m, c); len(got) != 0 {
			t.Error(c, got)
		}
	}
}

func TestNearIsNewMemory(t *testing.T) {
	m := open(4, 4)
	a := Near(m, at(1, 1))
	_ = append(a[:1], at(9, 9), at(9, 9), at(9, 9))
	if b := Near(m, at(1, 1)); !slices.Equal(b, []api.Cell{at(1, 0), at(2, 1), at(1, 2), at(0, 1)}) {
		t.Error(b)
	}
}

func TestUnformedHasNothing(t *testing.T) {
	for name, m := range unformed() {
		for _, c := range append([]api.Cell{at(0, 0), at(1, 1), at(3, 2), at(3, 4), at(-1, 0)}, strange...) {
			if Inside(m, c) || Free(m, c) || len(Near(m, c)) != 0 || Sees(m, c, c) || Sees(m, c, at(0, 0)) || Sees(m, at(0, 0), c) {
				t.Error(name, c)
			}
		}
	}
}

func TestDist(t *testing.T) {
	for _, k := range []struct {
		a, b api.Cell
		want int
	}{
		{at(1, 1), at(3, 0), 3},
		{at(0, 0), at(0, 0), 0},
		{at(-5, 7), at(-5, 7), 0},
		{at(-5, 7), at(5, -7), 24},
		{at(0, 0), at(0, 9), 9},
		{at(9, 0), at(0, 0), 9},
		{at(-1000, -1000), at(1000, 1000), 4000},
		{at(1000, -1000), at(-1000, 1000), 4000},
		{at(1000, 0), at(1000, 0), 0},
	} {
		if Dist(k.a, k.b) != k.want || Dist(k.b, k.a) != k.want {
			t.Error(k, Dist(k.a, k.b), Dist(k.b, k.a))
		}
	}
}

// unmeasured are cells with a number that isn't -1000 to 1000.
var unmeasured = []api.Cell{
	{X: 1001, Y: 0}, {X: -1001, Y: 0}, {X: 0, Y: 1001}, {X: 0, Y: -1001},
	{X: math.MaxInt, Y: math.MaxInt}, {X: math.MinInt, Y: math.MinInt}, {X: math.MinInt, Y: math.MaxInt}, {X: 1 << 40, Y: 3},
}

func TestDistUnmeasured(t *testing.T) {
	for _, c := range unmeasured {
		for _, d := range append([]api.Cell{at(0, 0), at(1000, 1000), at(-1000, -1000)}, unmeasured...) {
			if Dist(c, d) != 1000000 || Dist(d, c) != 1000000 {
				t.Error(c, d, Dist(c, d), Dist(d, c))
			}
		}
	}
}

// P5.3: Line, Sees

func TestLineKnown(t *testing.T) {
	for _, k := range []struct {
		a, b api.Cell
		line []api.Cell
	}{
		{at(0, 0), at(3, 1), []api.Cell{at(0, 0), at(1, 0), at(2, 1), at(3, 1)}},
		{at(3, 1), at(0, 0), []api.Cell{at(3, 1), at(2, 1), at(1, 0), at(0, 0)}},
		{at(2, 2), at(2, 2), []api.Cell{at(2, 2)}},
		{at(1000, -1000), at(1000, -1000), []api.Cell{at(1000, -1000)}},
		{at(0, 0), at(1, 0), []api.Cell{at(0, 0), at(1, 0)}},
		{at(0, 0), at(-2, -2), []api.Cell{at(0, 0), at(-1, -1), at(-2, -2)}},
		// Half way: rounded up, whichever way the line goes.
		{at(0, 0), at(2, 1), []api.Cell{at(0, 0), at(1, 1), at(2, 1)}},
		{at(2, 1), at(0, 0), []api.Cell{at(2, 1), at(1, 1), at(0, 0)}},
		{at(0, 0), at(2, -1), []api.Cell{at(0, 0), at(1, 0), at(2, -1)}},
		{at(0, 0), at(-1, 2), []api.Cell{at(0, 0), at(0, 1), at(-1, 2)}},
		{at(0, 0), at(-3, 1), []api.Cell{at(0, 0), at(-1, 0), at(-2, 1), at(-3, 1)}},
		{at(0, 0), at(1, -3), []api.Cell{at(0, 0), at(0, -1), at(1, -2), at(1, -3)}},
	} {
		if got := Line(k.a, k.b); !slices.Equal(got, k.line) {
			t.Error(k.a, k.b, got)
		}
	}
}

// isPlace answers whether x is the whole part of (2 k (b - a) + n) / (2 n) and a, without dividing.
func isPlace(x, a, b, k, n int) bool {
	up := 2*k*(b-a) + n
	return 2*n*(x-a) <= up && up < 2*n*(x-a+1)
}

// checkLine holds the line against the rule, and the line back against it, which has the same cells.
func checkLine(t *testing.T, a, b api.Cell) {
	t.Helper()
	n := max(a.X-b.X, b.X-a.X, a.Y-b.Y, b.Y-a.Y)
	line := Line(a, b)
	if len(line) != n+1 || line[0] != a || line[n] != b {
		t.Fatal(a, b, line)
	}
	for k, c := range line {
		if n > 0 && (!isPlace(c.X, a.X, b.X, k, n) || !isPlace(c.Y, a.Y, b.Y, k, n)) {
			t.Fatal(a, b, k, c)
		}
	}
	back := Line(b, a)
	slices.Reverse(back)
	if !slices.Equal(back, line) {
		t.Fatal("back", a, b, line, back)
	}
}

func TestLineRule(t *testing.T) {
	for _, a := range []api.Cell{at(0, 0), at(5, 3), at(-7, 2), at(-4, -9)} {
		for y := -12; y <= 12; y++ {
			for x := -12; x <= 12; x++ {
				checkLine(t, a, at(x, y))
				checkLine(t, at(x, y), a)
			}
		}
	}
	ends := []int{-1000, -999, -334, 0, 1, 501, 999, 1000}
	for _, x := range ends {
		for _, y := range ends {
			checkLine(t, at(-1000, -1000), at(x, y))
			checkLine(t, at(x, y), at(1000, -1000))
			checkLine(t, at(x, y), at(3, 7))
		}
	}
}

func TestLineUnmeasured(t *testing.T) {
	for _, c := range unmeasured {
		for _, d := range append([]api.Cell{at(0, 0), at(1000, 1000), at(-1000, -1000)}, unmeasured...) {
			if len(Line(c, d)) != 0 || len(Line(d, c)) != 0 {
				t.Error(c, d)
			}
		}
	}
}

func TestSeesKnown(t *testing.T) {
	m := mustRead(t, "......\n.#....\n...#..\n......\n..#...\n")
	for _, k := range []struct {
		a, b api.Cell
		want bool
	}{
		{at(0, 1), at(2, 1), false},
		{at(0, 1), at(1, 1), true}, // the rock itself is seen
		{at(1, 1), at(3, 2), true}, // and sees, rock to rock, past (2, 2)
		{at(1, 1), at(1, 1), true},
		{at(0, 0), at(2, 2), false},
		{at(0, 0), at(5, 0), true},
		{at(0, 2), at(2, 2), true},
		{at(0, 2), at(5, 2), false},
		{at(0, 0), at(2, 1), false}, // half way down is (1, 1)
		{at(0, 1), at(2, 0), false}, // from (2, 0), the lesser: half way is (1, 1)
		{at(1, 0), at(0, 2), false}, // from (1, 0): half way is (1, 1)
		{at(1, 0), at(2, 2), true},  // half way is (2, 1)
		{at(2, 1), at(4, 2), false}, // half way is (3, 2)
		{at(2, 2), at(4, 1), false}, // from (4, 1), the lesser: half way is (3, 2)
		{at(2, 3), at(4, 2), true},  // from (4, 2): half way is (3, 3)
		{at(0, 0), at(6, 0), false},
		{at(0, 0), at(0, 5), false},
		{at(-1, 0), at(0, 0), false},
		{at(0, -1), at(0, 0), false},
	} {
		if Sees(m, k.a, k.b) != k.want || Sees(m, k.b, k.a) != k.want {
			t.Error(k)
		}
	}
	for _, c := range append(unmeasured, strange...) {
		if Sees(m, c, at(0, 0)) || Sees(m, at(0, 0), c) || Sees(m, c, c) {
			t.Error(c)
		}
	}
}

// looks is whether a sees b, by the chapter's words: the line is that from the lesser cell.
func looks(m api.Map, a, b api.Cell) bool {
	if b.Y*m.W+b.X < a.Y*m.W+a.X {
		a, b = b, a
	}
	for _, c := range Line(a, b) {
		if c != a && c != b && m.Tiles[c.Y*m.W+c.X] == api.Rock {
			return false
		}
	}
	return true
}

func cellsOf(m api.Map) []api.Cell {
	var all []api.Cell
	for y := range m.H {
		for x := range m.W {
			all = append(all, at(x, y))
		}
	}
	return all
}

func TestSeesRule(t *testing.T) {
	for i, sides := range [][2]int{{4, 4}, {4, 20}, {9, 7}, {20, 5}, {13, 13}} {
		m := scattered(sides[0], sides[1], uint32(i))
		keep := clone(m)
		for _, a := range cellsOf(m) {
			for _, b := range cellsOf(m) {
				if Sees(m, a, b) != looks(m, a, b) {
					t.Fatal(i, a, b)
				}
			}
		}
		if !same(m, keep) {
			t.Error("changed", i)
		}
	}
}

// P5.4: what follows

func TestWhoSeesIsSeen(t *testing.T) {
	for i := range 6 {
		m := scattered(4+i, 9-i, uint32(i+50))
		for _, a := range cellsOf(m) {
			for _, b := range cellsOf(m) {
				if Sees(m, a, b) != Sees(m, b, a) {
					t.Fatal(i, a, b)
				}
			}
		}
	}
}

func TestNeighboursAreSeen(t *testing.T) {
	full := open(6, 5)
	for i := range full.Tiles {
		full.Tiles[i] = api.Rock
	}
	for i, m := range []api.Map{open(4, 4), full, scattered(20, 20, 3), scattered(7, 4, 8)} {
		for _, c := range cellsOf(m) {
			if !Sees(m, c, c) {
				t.Fatal(i, c)
			}
			for _, n := range Near(m, c) {
				if !Sees(m, c, n) || !Sees(m, n, c) || Dist(c, n) != 1 {
					t.Fatal(i, c, n)
				}
			}
		}
	}
}

// steps is how many steps from neighbour to neighbour lead from a to each cell.
func steps(m api.Map, a api.Cell) map[api.Cell]int {
	far := map[api.Cell]int{a: 0}
	for queue := []api.Cell{a}; len(queue) > 0; queue = queue[1:] {
		for _, n := range Near(m, queue[0]) {
			if _, ok := far[n]; !ok {
				far[n] = far[queue[0]] + 1
				queue = append(queue, n)
			}
		}
	}
	return far
}

func TestDistancesAreSteps(t *testing.T) {
	for _, sides := range [][2]int{{4, 4}, {9, 6}, {5, 20}, {20, 4}} {
		m := open(sides[0], sides[1])
		for _, a := range cellsOf(m) {
			far := steps(m, a)
			for _, b := range cellsOf(m) {
				if n, ok := far[b]; !ok || n != Dist(a, b) {
					t.Fatal(sides, a, b, n, ok)
				}
			}
		}
	}
}
