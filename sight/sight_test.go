package sight

import (
	"math"
	"slices"
	"strings"
	"testing"

	"skirmish/api"
	"skirmish/grid"
)

func at(x, y int) api.Cell { return api.Cell{X: x, Y: y} }

func eye(x, y, far int) Eye { return Eye{At: at(x, y), Far: far} }

func open(w, h int) api.Map {
	return api.Map{W: w, H: h, Tiles: make([]int, w*h), Ore: make([]int, w*h)}
}

func rocks(w, h int) api.Map {
	m := open(w, h)
	for i := range m.Tiles {
		m.Tiles[i] = api.Rock
	}
	return m
}

func mustRead(t *testing.T, text string) api.Map {
	t.Helper()
	m, e := grid.Read(text)
	if e != api.OK {
		t.Fatalf("Read(%q): %d", text, e)
	}
	return m
}

func mustView(t *testing.T, m api.Map, eyes ...Eye) []bool {
	t.Helper()
	v, e := View(m, eyes...)
	if len(v) != m.W*m.H || e != api.OK {
		t.Fatalf("View(%v, %v): %v, %d", m, eyes, v, e)
	}
	return v
}

func mustMerge(t *testing.T, a, b []bool) []bool {
	t.Helper()
	v, e := Merge(a, b)
	if len(v) != len(a) || e != api.OK {
		t.Fatalf("Merge(%v, %v): %v, %d", a, b, v, e)
	}
	return v
}

// dice makes numbers that follow from their first one.
type dice uint32

func (d *dice) below(n int) int {
	*d = *d*1664525 + 1013904223
	return int(*d>>8) % n
}

// scattered makes a map with about one rock in so many tiles, ore on some others.
func scattered(d *dice, w, h, in int) api.Map {
	m := open(w, h)
	for i := range m.Tiles {
		if d.below(in) == 0 {
			m.Tiles[i] = api.Rock
		} else if d.below(4) == 0 {
			m.Tiles[i] = api.Ore
			m.Ore[i] = d.below(api.MaxOre + 1)
		}
	}
	return m
}

// eyesOf answers up to most eyes at cells of m or just outside it, of all ranges, some at one cell perhaps.
func eyesOf(d *dice, m api.Map, most int) []Eye {
	var l []Eye
	for range d.below(most + 1) {
		l = append(l, eye(d.below(m.W+2)-1, d.below(m.H+2)-1, d.below(12)-2))
	}
	return l
}

func cellsOf(m api.Map) []api.Cell {
	var all []api.Cell
	for y := range m.H {
		for x := range m.W {
			all = append(all, at(x, y))
		}
	}
	return all
}

// outsideOf answers cells that aren't inside of m, the nearest ones and the furthest.
func outsideOf(m api.Map) []api.Cell {
	return []api.Cell{
		at(-1, 0), at(0, -1), at(m.W, 0), at(0, m.H), at(m.W-1, m.H), at(m.W, m.H-1), at(-1, -1), at(m.W, m.H),
		at(math.MaxInt, 0), at(0, math.MaxInt), at(math.MinInt, 0), at(0, math.MinInt), at(math.MaxInt, math.MinInt),
		at(1<<32, 0), at(0, 1<<32), at(1<<32, 1<<32), at(0, -m.W), at(m.W*m.H-1, 0), at(-1, 1), at(m.W, -1),
	}
}

// unformed answers maps that aren't formed, each wrong by one thing.
func unformed() []api.Map {
	odd := func(change func(m *api.Map)) api.Map {
		m := open(4, 5)
		change(&m)
		return m
	}
	return []api.Map{
		{}, open(3, 4), open(4, 3), open(21, 4), open(4, 21), {W: 4, H: 4}, {W: math.MaxInt, H: math.MaxInt}, {W: 1 << 32, H: 1 << 32},
		odd(func(m *api.Map) { m.W, m.H = -4, -5 }),
		odd(func(m *api.Map) { m.Tiles = m.Tiles[:19] }),
		odd(func(m *api.Map) { m.Tiles = append(m.Tiles, 0) }),
		odd(func(m *api.Map) { m.Ore = nil }),
		odd(func(m *api.Map) { m.Ore = append(m.Ore, 0) }),
		odd(func(m *api.Map) { m.Tiles[19] = 3 }),
		odd(func(m *api.Map) { m.Tiles[19] = -1 }),
		odd(func(m *api.Map) { m.Ore[19] = 1 }),
		odd(func(m *api.Map) { m.Tiles[19], m.Ore[19] = api.Ore, api.MaxOre+1 }),
		odd(func(m *api.Map) { m.Tiles[19], m.Ore[19] = api.Rock, 10 }),
	}
}

// drawn answers a view as rows of signs: x is visible.
func drawn(m api.Map, view []bool) string {
	var b strings.Builder
	for i, is := range view {
		if is {
			b.WriteByte('x')
		} else {
			b.WriteByte('.')
		}
		if i%m.W == m.W-1 {
			b.WriteByte('\n')
		}
	}
	return b.String()
}

func isInside(m api.Map, c api.Cell) bool {
	return c.X >= 0 && c.X < m.W && c.Y >= 0 && c.Y < m.H
}

// roundedDown answers a / b, b above 0, by counting.
func roundedDown(a, b int) int {
	q := 0
	for ; a < 0; a += b {
		q--
	}
	for ; a >= b; a -= b {
		q++
	}
	return q
}

// isClear answers by the words of layer 5 whether no cell between a and b, two cells of a formed map m, is Rock.
func isClear(m api.Map, a, b api.Cell) bool {
	if b.Y < a.Y || b.Y == a.Y && b.X < a.X {
		a, b = b, a
	}
	n := max(b.Y-a.Y, b.X-a.X, a.X-b.X)
	for k := 1; k < n; k++ {
		x := a.X + roundedDown(2*k*(b.X-a.X)+n, 2*n)
		y := a.Y + roundedDown(2*k*(b.Y-a.Y)+n, 2*n)
		if m.Tiles[y*m.W+x] == api.Rock {
			return false
		}
	}
	return true
}

// isVisible answers by the chapter's words whether a cell of a formed map is visible.
func isVisible(m api.Map, c api.Cell, eyes []Eye) bool {
	for _, e := range eyes {
		if !isInside(m, e.At) {
			continue
		}
		far := max(e.At.X-c.X, c.X-e.At.X) + max(e.At.Y-c.Y, c.Y-e.At.Y)
		if far <= e.Far && isClear(m, e.At, c) {
			return true
		}
	}
	return false
}

// holds asks that View and Visible answer that view of a formed map.
func holds(t *testing.T, m api.Map, eyes []Eye, want []bool) {
	t.Helper()
	if v := mustView(t, m, eyes...); !slices.Equal(v, want) {
		t.Fatalf("View(%v, %v):\n%swant\n%s", m, eyes, drawn(m, v), drawn(m, want))
	}
	for i, c := range cellsOf(m) {
		if ok := Visible(m, c, eyes...); ok != want[i] {
			t.Fatalf("Visible(%v, %v, %v) = %v", m, c, eyes, ok)
		}
	}
	for _, c := range outsideOf(m) {
		if Visible(m, c, eyes...) {
			t.Fatalf("Visible(%v, %v, %v) = true", m, c, eyes)
		}
	}
}

// holdsDrawn asks the same of a view that is drawn.
func holdsDrawn(t *testing.T, m api.Map, eyes []Eye, want string) {
	t.Helper()
	var view []bool
	for _, sign := range strings.ReplaceAll(want, "\n", "") {
		view = append(view, sign == 'x')
	}
	holds(t, m, eyes, view)
}

// P10.1: what is visible

func TestExamples(t *testing.T) {
	holdsDrawn(t, open(5, 5), []Eye{eye(2, 2, 1)}, ".....\n..x..\n.xxx.\n..x..\n.....\n")
	behind := mustRead(t, ".....\n.....\n..#..\n.....\n.....\n")
	// The line to (4, 1) goes through the rock, as halves are rounded up; the one to (4, 3) doesn't.
	holdsDrawn(t, behind, []Eye{eye(0, 2, 9)}, "xxxxx\nxxxx.\nxxx..\nxxxxx\nxxxxx\n")
}

func TestKnownViews(t *testing.T) {
	plain := open(6, 4)
	wall := mustRead(t, "..#...\n..#...\n..#...\n......\n")
	for _, k := range []struct {
		m    api.Map
		eyes []Eye
		want string
	}{
		// How far is measured in X and in Y together, as far as that and no further.
		{plain, []Eye{eye(2, 1, 0)}, "......\n..x...\n......\n......\n"},
		{plain, []Eye{eye(2, 1, 1)}, "..x...\n.xxx..\n..x...\n......\n"},
		{plain, []Eye{eye(2, 1, 2)}, ".xxx..\nxxxxx.\n.xxx..\n..x...\n"},
		{plain, []Eye{eye(2, 1, 4)}, "xxxxxx\nxxxxxx\nxxxxxx\nxxxxx.\n"},
		{plain, []Eye{eye(2, 1, 5)}, "xxxxxx\nxxxxxx\nxxxxxx\nxxxxxx\n"},
		{plain, []Eye{eye(0, 0, 3)}, "xxxx..\nxxx...\nxx....\nx.....\n"},
		{plain, []Eye{eye(5, 3, 3)}, ".....x\n....xx\n...xxx\n..xxxx\n"},
		{plain, []Eye{eye(5, 0, 1)}, "....xx\n.....x\n......\n......\n"},
		{plain, []Eye{eye(0, 3, 1)}, "......\n......\nx.....\nxx....\n"},
		// None, and such as see nothing, not even their own cell.
		{plain, nil, "......\n......\n......\n......\n"},
		{plain, []Eye{}, "......\n......\n......\n......\n"},
		{plain, []Eye{eye(2, 1, -1)}, "......\n......\n......\n......\n"},
		{plain, []Eye{eye(2, 1, math.MinInt), eye(1, 1, -1)}, "......\n......\n......\n......\n"},
		// A rock is visible itself, but nothing behind it.
		{wall, []Eye{eye(0, 0, 99)}, "xxx...\nxxx...\nxxx...\nxxx...\n"},
		{wall, []Eye{eye(5, 3, 99)}, "..xxxx\n..xxxx\n..xxxx\nxxxxxx\n"},
		// From a rock one sees too, into all directions.
		{wall, []Eye{eye(2, 0, 2)}, "xxxxx.\n.xxx..\n......\n......\n"},
		// Several together, in whatever order, and twice.
		{wall, []Eye{eye(0, 0, 1), eye(5, 3, 1)}, "xx....\nx.....\n.....x\n....xx\n"},
		{wall, []Eye{eye(5, 3, 1), eye(0, 0, 1), eye(5, 3, 1)}, "xx....\nx.....\n.....x\n....xx\n"},
		// Two at one cell: neither takes from what the other sees.
		{plain, []Eye{eye(2, 1, 1), eye(2, 1, 0)}, "..x...\n.xxx..\n..x...\n......\n"},
		{plain, []Eye{eye(2, 1, 0), eye(2, 1, 1)}, "..x...\n.xxx..\n..x...\n......\n"},
		{plain, []Eye{eye(2, 1, -5), eye(2, 1, 1), eye(2, 1, -6)}, "..x...\n.xxx..\n..x...\n......\n"},
	} {
		holdsDrawn(t, k.m, k.eyes, k.want)
	}
}

func TestEyesOutsideSeeNothing(t *testing.T) {
	for _, m := range []api.Map{open(4, 4), open(7, 4), open(4, 20), open(20, 20), rocks(5, 4)} {
		var all []Eye
		for _, c := range outsideOf(m) {
			for _, far := range []int{0, 1, 2, 40, 4000, 999999, 1000000, 1000001, math.MaxInt} {
				all = append(all, Eye{At: c, Far: far})
				holds(t, m, all[len(all)-1:], make([]bool, m.W*m.H))
			}
		}
		holds(t, m, all, make([]bool, m.W*m.H))
		// Nor do they keep those inside from seeing.
		want := make([]bool, m.W*m.H)
		want[2*m.W+3] = true
		holds(t, m, append(all, eye(3, 2, 0)), want)
	}
}

func TestEyesThatSeeVeryFar(t *testing.T) {
	for _, far := range []int{38, 39, 1000000, math.MaxInt} {
		m := open(20, 20)
		for _, c := range []api.Cell{at(0, 0), at(19, 19), at(0, 19), at(7, 11)} {
			holds(t, m, []Eye{{At: c, Far: far}}, slices.Repeat([]bool{true}, 400))
		}
	}
	want := slices.Repeat([]bool{true}, 400)
	want[399] = false
	holds(t, open(20, 20), []Eye{eye(0, 0, 37)}, want)
}

func TestAllIsRock(t *testing.T) {
	// Where nothing but rock is, each sees those that no cell is between: all eight around it.
	holdsDrawn(t, rocks(5, 5), []Eye{eye(2, 2, 99)}, ".....\n.xxx.\n.xxx.\n.xxx.\n.....\n")
	holdsDrawn(t, rocks(5, 5), []Eye{eye(2, 2, 1)}, ".....\n..x..\n.xxx.\n..x..\n.....\n")
	holdsDrawn(t, rocks(5, 5), []Eye{eye(0, 0, 2)}, "xx...\nxx...\n.....\n.....\n.....\n")
}

func TestOreHidesNothing(t *testing.T) {
	m := mustRead(t, "$$$$$\n$919$\n$$$$$\n$999$\n")
	holds(t, m, []Eye{eye(0, 0, 99)}, slices.Repeat([]bool{true}, 20))
}

func TestOpenMapsOfAllSides(t *testing.T) {
	for w := api.MinSide; w <= api.MaxSide; w++ {
		for h := api.MinSide; h <= api.MaxSide; h++ {
			m := open(w, h)
			e := eye(w/3, h-2, (w+h)/3)
			var want []bool
			for _, c := range cellsOf(m) {
				want = append(want, grid.Dist(c, e.At) <= e.Far)
			}
			holds(t, m, []Eye{e}, want)
		}
	}
}

func TestAgainstReckoning(t *testing.T) {
	d := dice(100)
	for i := range 300 {
		m := scattered(&d, 4+d.below(17), 4+d.below(17), 2+i%8)
		eyes := eyesOf(&d, m, 8)
		var want []bool
		for _, c := range cellsOf(m) {
			want = append(want, isVisible(m, c, eyes))
		}
		holds(t, m, eyes, want)
	}
}

func TestVeryManyEyes(t *testing.T) {
	m := mustRead(t, "....\n.##.\n....\n....\n")
	var eyes []Eye
	for i := range 300000 {
		eyes = append(eyes, eye(i%2, 0, i%3), eye(-1-i, i, i))
	}
	want := mustView(t, m, eye(0, 0, 2), eye(1, 0, 2))
	if v := mustView(t, m, eyes...); !slices.Equal(v, want) {
		t.Error(drawn(m, v))
	}
	if !Visible(m, at(3, 0), eyes...) || Visible(m, at(3, 3), eyes...) {
		t.Error("Visible")
	}
}

// P10.1, P10.3: wrong maps

func TestUnformedMaps(t *testing.T) {
	view := slices.Repeat([]bool{true}, 20)
	l := []api.Entity{{ID: 1}, {ID: 2, At: at(1, 1)}}
	for _, m := range unformed() {
		for _, eyes := range [][]Eye{nil, {}, {eye(0, 0, 9)}, {eye(1, 1, 0), eye(-1, 0, 9)}} {
			if v, e := View(m, eyes...); len(v) != 0 || e != api.ErrForm {
				t.Errorf("View(%v, %v): %v, %d", m, eyes, v, e)
			}
			for _, c := range []api.Cell{at(0, 0), at(1, 1), at(-1, 0), at(3, 3)} {
				if Visible(m, c, eyes...) {
					t.Errorf("Visible(%v, %v, %v)", m, c, eyes)
				}
			}
		}
		for _, size := range []int{0, 1, 9, 12, 16, 19, 20} {
			if seen := Seen(m, l, view[:size]); len(seen) != 0 {
				t.Errorf("Seen(%v, %v, %d): %v", m, l, size, seen)
			}
		}
	}
	wide := api.Map{W: 21, H: 4, Tiles: make([]int, 84), Ore: make([]int, 84)}
	if seen := Seen(wide, l, slices.Repeat([]bool{true}, 84)); len(seen) != 0 {
		t.Error(seen)
	}
}

// P10.2

func TestMerge(t *testing.T) {
	for _, k := range []struct{ a, b, want []bool }{
		{nil, nil, nil},
		{[]bool{}, nil, nil},
		{nil, []bool{}, nil},
		{[]bool{false}, []bool{false}, []bool{false}},
		{[]bool{true}, []bool{false}, []bool{true}},
		{[]bool{false}, []bool{true}, []bool{true}},
		{[]bool{true}, []bool{true}, []bool{true}},
		{[]bool{false, false, true, true, false}, []bool{false, true, false, true, false}, []bool{false, true, true, true, false}},
		// Any length will do, not only that of a map.
		{make([]bool, 1000), slices.Repeat([]bool{true}, 1000), slices.Repeat([]bool{true}, 1000)},
	} {
		if v := mustMerge(t, k.a, k.b); !slices.Equal(v, k.want) {
			t.Error(k.a, k.b, v)
		}
	}
}

func TestMergeOfUnlikeLengths(t *testing.T) {
	view := slices.Repeat([]bool{true}, 401)
	for _, k := range [][2]int{{0, 1}, {1, 0}, {0, 400}, {400, 0}, {15, 16}, {16, 15}, {400, 401}, {401, 400}, {1, 2}} {
		if v, e := Merge(view[:k[0]], view[:k[1]]); len(v) != 0 || e != api.ErrRange {
			t.Error(k, v, e)
		}
	}
}

// P10.3

// full answers an entity with something in all of its fields.
func full(id int, c api.Cell) api.Entity {
	return api.Entity{ID: id, Owner: 3, Kind: api.Worker, At: c, HP: 17, Doing: api.Harvest, Goal: at(9, -8), Target: 4, Load: 6}
}

func TestSeen(t *testing.T) {
	m := open(5, 4)
	view := mustView(t, m, eye(1, 1, 1), eye(4, 3, 0))
	l := []api.Entity{
		full(9, at(1, 1)), full(2, at(0, 0)), full(3, at(4, 3)), full(2, at(1, 0)), full(-7, at(2, 2)),
		full(9, at(1, 1)), full(8, at(0, 1)), full(1, at(3, 3)), {At: at(2, 1)}, full(5, at(1, 2)), full(6, at(3, 4)),
	}
	// In the order of the list, not of IDs or cells; each as it is, twice if it is there twice.
	want := []api.Entity{l[0], l[2], l[3], l[5], l[6], l[8], l[9]}
	if seen := Seen(m, l, view); !slices.Equal(seen, want) {
		t.Error(seen)
	}
	slices.Reverse(l)
	slices.Reverse(want)
	if seen := Seen(m, l, view); !slices.Equal(seen, want) {
		t.Error(seen)
	}
}

func TestSeenByViewsOfAllAndNothing(t *testing.T) {
	for _, m := range []api.Map{open(4, 4), open(4, 20), open(20, 4), open(20, 20), rocks(7, 5)} {
		var l, all []api.Entity
		for i, c := range cellsOf(m) {
			l = append(l, full(i, c))
		}
		all = slices.Clone(l)
		for i, c := range outsideOf(m) {
			l = append(l, full(1000+i, c))
		}
		if seen := Seen(m, l, slices.Repeat([]bool{true}, m.W*m.H)); !slices.Equal(seen, all) {
			t.Error(m, seen)
		}
		for i := range all {
			view := make([]bool, m.W*m.H)
			view[i] = true
			if seen := Seen(m, l, view); !slices.Equal(seen, all[i:i+1]) {
				t.Error(m, i, seen)
			}
		}
		if seen := Seen(m, l, make([]bool, m.W*m.H)); len(seen) != 0 {
			t.Error(m, seen)
		}
		if seen := Seen(m, nil, slices.Repeat([]bool{true}, m.W*m.H)); len(seen) != 0 {
			t.Error(m, seen)
		}
	}
}

func TestSeenByViewsOfOtherSizes(t *testing.T) {
	view := slices.Repeat([]bool{true}, 500)
	for _, m := range []api.Map{open(4, 4), open(4, 5), open(20, 20)} {
		var l []api.Entity
		for i, c := range cellsOf(m) {
			l = append(l, full(i, c))
		}
		for _, size := range []int{0, 1, 4, m.W*m.H - 1, m.W*m.H + 1, m.W * (m.H + 1), (m.W + 1) * m.H, 2 * m.W * m.H, 500} {
			if seen := Seen(m, l, view[:min(size, 500)]); len(seen) != 0 {
				t.Error(m, size, seen)
			}
		}
		if seen := Seen(m, l, nil); len(seen) != 0 {
			t.Error(m, seen)
		}
		if seen := Seen(m, l, view[:m.W*m.H]); !slices.Equal(seen, l) {
			t.Error(m, seen)
		}
	}
	// Only how many places it has is asked, not of what map it is.
	four := []api.Entity{full(1, at(4, 3))}
	if seen := Seen(open(5, 4), four, mustView(t, open(4, 5), eye(3, 4, 0))); !slices.Equal(seen, four) {
		t.Error(seen)
	}
}

// P10.4: what follows

func TestEyesTogetherSeeWhatEachSeesAlone(t *testing.T) {
	d := dice(101)
	for i := range 200 {
		m := scattered(&d, 4+d.below(17), 4+d.below(17), 2+i%8)
		eyes := eyesOf(&d, m, 8)
		together := make([]bool, m.W*m.H)
		for _, e := range eyes {
			together = mustMerge(t, together, mustView(t, m, e))
		}
		holds(t, m, eyes, together)
		half := len(eyes) / 2
		if v := mustMerge(t, mustView(t, m, eyes[half:]...), mustView(t, m, eyes[:half]...)); !slices.Equal(v, together) {
			t.Fatal(m, eyes)
		}
		slices.Reverse(eyes)
		holds(t, m, append(eyes, eyes...), together)
	}
}

func TestWhoSeesFurtherSeesNoLess(t *testing.T) {
	d := dice(102)
	for i := range 100 {
		m := scattered(&d, 4+d.below(17), 4+d.below(17), 2+i%8)
		c := at(d.below(m.W), d.below(m.H))
		less := mustView(t, m, Eye{At: c, Far: -1})
		for far := range 40 {
			more := mustView(t, m, Eye{At: c, Far: far})
			if !slices.Equal(mustMerge(t, less, more), more) || !more[c.Y*m.W+c.X] {
				t.Fatal(m, c, far)
			}
			less = more
		}
	}
}

func TestWhoseCellIsVisibleIsSeen(t *testing.T) {
	d := dice(103)
	for i := range 100 {
		m := scattered(&d, 4+d.below(17), 4+d.below(17), 2+i%8)
		eyes := eyesOf(&d, m, 8)
		var l, want []api.Entity
		for j := range 40 {
			e := full(j+1, at(d.below(m.W+2)-1, d.below(m.H+2)-1))
			l = append(l, e)
			if Visible(m, e.At, eyes...) {
				want = append(want, e)
			}
		}
		if seen := Seen(m, l, mustView(t, m, eyes...)); !slices.Equal(seen, want) {
			t.Fatal(m, eyes, seen, want)
		}
	}
}

// R4, R5: what is handed in is left as it is; what is answered is new memory

func TestArgumentsAreLeftAlone(t *testing.T) {
	m := mustRead(t, "..3.#\n..3.#\n..3.#\n..3.#\n")
	m.Tiles = append(m.Tiles, 7, 7)[:20]
	m.Ore = append(m.Ore, 8, 8)[:20]
	eyes := []Eye{eye(1, 1, 1), eye(1, 1, 3), eye(-1, 0, 9), eye(4, 3, 2), eye(7, 7, 7), eye(8, 8, 8)}
	view := slices.Repeat([]bool{true, false, false}, 7)
	l := []api.Entity{full(1, at(0, 0)), full(2, at(1, 0)), full(3, at(3, 0)), full(4, at(4, 4)), full(5, at(5, 5))}
	tiles, ore := slices.Clone(m.Tiles[:22]), slices.Clone(m.Ore[:22])
	looks, places, entities := slices.Clone(eyes), slices.Clone(view), slices.Clone(l)
	mustView(t, m, eyes[:4]...)
	Visible(m, at(0, 3), eyes[:4]...)
	mustMerge(t, view[:20], view[1:21])
	Seen(m, l[:4], view[:20])
	if !slices.Equal(m.Tiles[:22], tiles) || !slices.Equal(m.Ore[:22], ore) {
		t.Error(m)
	}
	if !slices.Equal(eyes, looks) || !slices.Equal(view, places) || !slices.Equal(l, entities) {
		t.Error(eyes, view, l)
	}
}

func TestAnswersAreNewMemory(t *testing.T) {
	m := open(4, 4)
	first, second := mustView(t, m, eye(1, 1, 1)), mustView(t, m, eye(1, 1, 1))
	l := []api.Entity{full(1, at(1, 1)), full(2, at(3, 3))}
	merged, again := mustMerge(t, first, first), mustMerge(t, first, second)
	seen := Seen(m, l, second)
	clear(first)
	_ = append(first[:3], true, true)
	if !slices.Equal(merged, second) || !slices.Equal(again, second) || !second[5] {
		t.Error(merged, again, second)
	}
	clear(merged)
	clear(l)
	if !second[5] || !again[5] || len(seen) != 1 || seen[0] != full(1, at(1, 1)) {
		t.Error(second, again, seen)
	}
	l[0] = full(1, at(1, 1))
	everyone := Seen(m, l[:1], second)
	everyone[0].ID = 99
	_ = append(everyone, full(8, at(0, 0)))
	if l[0].ID != 1 || l[1] != (api.Entity{}) {
		t.Error(l)
	}
}
