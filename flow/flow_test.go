package flow

import (
	"math"
	"slices"
	"testing"

	"skirmish/api"
	"skirmish/grid"
	"skirmish/path"
)

func at(x, y int) api.Cell { return api.Cell{X: x, Y: y} }

func open(w, h int) api.Map {
	return api.Map{W: w, H: h, Tiles: make([]int, w*h), Ore: make([]int, w*h)}
}

func rocks(w, h int) api.Map {
	m := open(w, h)
	for i := range m.Tiles {
		m.Tiles[i] = api.Rock
	}
	return m
}

func mustRead(t *testing.T, text string) api.Map {
	t.Helper()
	m, e := grid.Read(text)
	if e != api.OK {
		t.Fatalf("Read(%q): %d", text, e)
	}
	return m
}

func mustMake(t *testing.T, m api.Map, blocked, goals []api.Cell) *Field {
	t.Helper()
	f, e := Make(m, blocked, goals)
	if f == nil || e != api.OK {
		t.Fatalf("Make(%v, %v, %v): %v, %d", m, blocked, goals, f, e)
	}
	return f
}

// dice makes numbers that follow from their first one.
type dice uint32

func (d *dice) below(n int) int {
	*d = *d*1664525 + 1013904223
	return int(*d>>8) % n
}

// scattered makes a map with about one rock in so many tiles, ore on some others.
func scattered(d *dice, w, h, in int) api.Map {
	m := open(w, h)
	for i := range m.Tiles {
		if d.below(in) == 0 {
			m.Tiles[i] = api.Rock
		} else if d.below(4) == 0 {
			m.Tiles[i] = api.Ore
			m.Ore[i] = d.below(api.MaxOre + 1)
		}
	}
	return m
}

// blockedOf answers up to most cells of m or just outside it, some of them twice perhaps.
func blockedOf(d *dice, m api.Map, most int) []api.Cell {
	var l []api.Cell
	for range d.below(most + 1) {
		l = append(l, at(d.below(m.W+2)-1, d.below(m.H+2)-1))
	}
	return l
}

// goalsOf answers up to most cells of m, some of them twice perhaps, on whatever ground.
func goalsOf(d *dice, m api.Map, most int) []api.Cell {
	var l []api.Cell
	for range d.below(most + 1) {
		l = append(l, at(d.below(m.W), d.below(m.H)))
	}
	return l
}

func cellsOf(m api.Map) []api.Cell {
	var all []api.Cell
	for y := range m.H {
		for x := range m.W {
			all = append(all, at(x, y))
		}
	}
	return all
}

// outsideOf answers cells that aren't inside of m, the nearest ones and the furthest.
func outsideOf(m api.Map) []api.Cell {
	return []api.Cell{
		at(-1, 0), at(0, -1), at(m.W, 0), at(0, m.H), at(m.W-1, m.H), at(m.W, m.H-1), at(-1, -1), at(m.W, m.H),
		at(math.MaxInt, 0), at(0, math.MaxInt), at(math.MinInt, 0), at(0, math.MinInt), at(math.MaxInt, math.MinInt),
		at(1<<32, 0), at(0, 1<<32), at(1<<32, 1<<32), at(0, -m.W), at(m.W*m.H, 0), at(-1, 1), at(m.W, -1),
	}
}

// mayComeTo answers by the chapter's words whether c, a cell of m, may be come to.
func mayComeTo(m api.Map, blocked, goals []api.Cell, c api.Cell) bool {
	return slices.Contains(goals, c) || m.Tiles[c.Y*m.W+c.X] != api.Rock && !slices.Contains(blocked, c)
}

// beside answers the neighbours of c: north, east, south, west, as far as they are inside.
func beside(m api.Map, c api.Cell) []api.Cell {
	var l []api.Cell
	if c.Y > 0 {
		l = append(l, at(c.X, c.Y-1))
	}
	if c.X < m.W-1 {
		l = append(l, at(c.X+1, c.Y))
	}
	if c.Y < m.H-1 {
		l = append(l, at(c.X, c.Y+1))
	}
	if c.X > 0 {
		l = append(l, at(c.X-1, c.Y))
	}
	return l
}

// leastBeside answers the least number of those neighbours that may be come to, -1 if there is none.
func leastBeside(m api.Map, enter []bool, numbers []int, c api.Cell) int {
	least := -1
	for _, n := range beside(m, c) {
		i := n.Y*m.W + n.X
		if d := numbers[i]; enter[i] && d >= 0 && (least < 0 || d < least) {
			least = d
		}
	}
	return least
}

// reckoned answers a field's numbers another way: all cells are gone over till no number gets less.
func reckoned(m api.Map, blocked, goals []api.Cell) []int {
	all := cellsOf(m)
	numbers := make([]int, len(all))
	enter := make([]bool, len(all))
	for i, c := range all {
		enter[i] = mayComeTo(m, blocked, goals, c)
		if !slices.Contains(goals, c) {
			numbers[i] = -1
		}
	}
	for changed := true; changed; {
		changed = false
		for i, c := range all {
			if least := leastBeside(m, enter, numbers, c); least >= 0 && (numbers[i] < 0 || numbers[i] > least+1) {
				numbers[i] = least + 1
				changed = true
			}
		}
	}
	return numbers
}

// nextOf answers by the chapter's words what Next says of c.
func nextOf(m api.Map, blocked, goals []api.Cell, numbers []int, c api.Cell) (api.Cell, bool) {
	d := numbers[c.Y*m.W+c.X]
	if d <= 0 {
		return api.Cell{}, false
	}
	for _, n := range beside(m, c) {
		if numbers[n.Y*m.W+n.X] == d-1 && mayComeTo(m, blocked, goals, n) {
			return n, true
		}
	}
	return api.Cell{}, false
}

// holds asks that a field has just these numbers, and that all it answers is what the chapter says of them.
func holds(t *testing.T, m api.Map, blocked, goals []api.Cell, numbers []int) {
	t.Helper()
	f := mustMake(t, m, blocked, goals)
	if l := f.List(); !slices.Equal(l, numbers) {
		t.Fatalf("Make(%v, %v, %v): %v, want %v", m, blocked, goals, l, numbers)
	}
	for i, c := range cellsOf(m) {
		if d := f.Far(c); d != numbers[i] {
			t.Fatalf("Make(%v, %v, %v): Far(%v) = %d, want %d", m, blocked, goals, c, d, numbers[i])
		}
		want, there := nextOf(m, blocked, goals, numbers, c)
		if n, ok := f.Next(c); n != want || ok != there {
			t.Fatalf("Make(%v, %v, %v): Next(%v) = %v, %v, want %v, %v", m, blocked, goals, c, n, ok, want, there)
		}
	}
	holdsOutside(t, f, m)
}

func holdsOutside(t *testing.T, f *Field, m api.Map) {
	t.Helper()
	for _, c := range outsideOf(m) {
		if n, ok := f.Next(c); f.Far(c) != -1 || ok || n != at(0, 0) {
			t.Fatal(m, c, f.Far(c), n, ok)
		}
	}
}

// P9.1 and P9.2: known fields

func TestKnownFields(t *testing.T) {
	walls := mustRead(t, "....\n.##.\n....\n....\n")
	corner := mustRead(t, "..#.\n..#.\n###.\n....\n")
	for _, k := range []struct {
		m              api.Map
		blocked, goals []api.Cell
		numbers        []int
	}{
		{open(4, 4), nil, []api.Cell{at(0, 0)}, []int{0, 1, 2, 3, 1, 2, 3, 4, 2, 3, 4, 5, 3, 4, 5, 6}},
		{open(4, 4), nil, []api.Cell{at(0, 0), at(3, 3)}, []int{0, 1, 2, 3, 1, 2, 3, 2, 2, 3, 2, 1, 3, 2, 1, 0}},
		{open(4, 4), nil, []api.Cell{at(1, 2), at(1, 2)}, []int{3, 2, 3, 4, 2, 1, 2, 3, 1, 0, 1, 2, 2, 1, 2, 3}},
		// Rock has a number, for one may begin there, but nobody goes through it.
		{walls, nil, []api.Cell{at(0, 1)}, []int{1, 2, 3, 4, 0, 1, 4, 5, 1, 2, 3, 4, 2, 3, 4, 5}},
		// So has a cell that is blocked.
		{open(4, 4), []api.Cell{at(1, 1), at(2, 1)}, []api.Cell{at(0, 1)}, []int{1, 2, 3, 4, 0, 1, 4, 5, 1, 2, 3, 4, 2, 3, 4, 5}},
		// A goal is come to, whatever it is; one that begins on shut ground may step to it.
		{walls, nil, []api.Cell{at(1, 1)}, []int{2, 1, 2, 3, 1, 0, 1, 4, 2, 1, 2, 3, 3, 2, 3, 4}},
		{open(4, 4), []api.Cell{at(1, 1), at(2, 1)}, []api.Cell{at(1, 1)}, []int{2, 1, 2, 3, 1, 0, 1, 4, 2, 1, 2, 3, 3, 2, 3, 4}},
		// Two shut goals side by side.
		{walls, []api.Cell{at(2, 1)}, []api.Cell{at(2, 1), at(1, 1)}, []int{2, 1, 1, 2, 1, 0, 0, 1, 2, 1, 1, 2, 3, 2, 2, 3}},
		// Walls all round: those beside the wall begin in it, those behind it have no way. None goes over corners.
		{corner, nil, []api.Cell{at(0, 0)}, []int{0, 1, 2, -1, 1, 2, 3, -1, 2, 3, -1, -1, -1, -1, -1, -1}},
		{corner, nil, []api.Cell{at(3, 3)}, []int{-1, -1, 4, 3, -1, -1, 3, 2, 4, 3, 2, 1, 3, 2, 1, 0}},
		{corner, nil, []api.Cell{at(3, 0), at(1, 1)}, []int{2, 1, 1, 0, 1, 0, 1, 1, 2, 1, 3, 2, 6, 5, 4, 3}},
		// A goal that is shut in.
		{open(4, 4), []api.Cell{at(1, 0), at(0, 1)}, []api.Cell{at(0, 0)}, []int{0, 1, -1, -1, 1, -1, -1, -1, -1, -1, -1, -1, -1, -1, -1, -1}},
	} {
		holds(t, k.m, k.blocked, k.goals, k.numbers)
	}
}

func TestKnownNexts(t *testing.T) {
	plain := open(5, 5)
	walls := mustRead(t, "....\n.##.\n....\n....\n")
	middle := []api.Cell{at(2, 2)}
	for _, k := range []struct {
		m              api.Map
		blocked, goals []api.Cell
		c, next        api.Cell
	}{
		{open(4, 4), nil, []api.Cell{at(0, 0)}, at(1, 1), at(1, 0)},
		// North ahead of east and west, east ahead of south, south ahead of west.
		{plain, nil, middle, at(1, 3), at(1, 2)},
		{plain, nil, middle, at(3, 3), at(3, 2)},
		{plain, nil, middle, at(1, 1), at(2, 1)},
		{plain, nil, middle, at(3, 1), at(3, 2)},
		{plain, nil, middle, at(2, 4), at(2, 3)},
		{plain, nil, middle, at(0, 2), at(1, 2)},
		{plain, nil, middle, at(2, 0), at(2, 1)},
		{plain, nil, middle, at(4, 2), at(3, 2)},
		// A neighbour that is blocked is passed over, though its number is 1 less.
		{plain, []api.Cell{at(1, 2)}, middle, at(1, 3), at(2, 3)},
		{plain, []api.Cell{at(2, 1)}, middle, at(1, 1), at(1, 2)},
		// One that is Rock, too.
		{walls, nil, []api.Cell{at(0, 0)}, at(1, 2), at(0, 2)},
		// From one shut cell to the next nobody goes.
		{walls, nil, []api.Cell{at(0, 0)}, at(2, 1), at(2, 0)},
		{walls, nil, []api.Cell{at(0, 1)}, at(2, 1), at(2, 0)},
		// But to a goal that is shut.
		{walls, nil, []api.Cell{at(1, 1)}, at(2, 1), at(1, 1)},
		{walls, []api.Cell{at(1, 1)}, []api.Cell{at(1, 1)}, at(1, 2), at(1, 1)},
		// Of several goals the first in the order of neighbours, not of goals.
		{plain, nil, []api.Cell{at(1, 2), at(2, 3), at(3, 2), at(2, 1)}, at(2, 2), at(2, 1)},
		{plain, nil, []api.Cell{at(1, 2), at(2, 3), at(3, 2)}, at(2, 2), at(3, 2)},
		{plain, nil, []api.Cell{at(1, 2), at(2, 3)}, at(2, 2), at(2, 3)},
		{plain, nil, []api.Cell{at(1, 2)}, at(2, 2), at(1, 2)},
		// A closer goal, though a further one is to the north.
		{plain, nil, []api.Cell{at(2, 0), at(2, 3)}, at(2, 2), at(2, 3)},
	} {
		f := mustMake(t, k.m, k.blocked, k.goals)
		if n, ok := f.Next(k.c); n != k.next || !ok {
			t.Errorf("Make(%v, %v, %v): Next(%v) = %v, %v, want %v", k.m, k.blocked, k.goals, k.c, n, ok, k.next)
		}
		for _, g := range k.goals {
			if n, ok := f.Next(g); n != at(0, 0) || ok || f.Far(g) != 0 {
				t.Error(k.m, g, n, ok, f.Far(g))
			}
		}
	}
}

func TestNoGoals(t *testing.T) {
	none := func(m api.Map) []int { return slices.Repeat([]int{-1}, m.W*m.H) }
	for _, m := range []api.Map{open(4, 4), open(20, 20), open(4, 20), rocks(5, 4)} {
		for _, goals := range [][]api.Cell{nil, {}} {
			holds(t, m, nil, goals, none(m))
			holds(t, m, cellsOf(m), goals, none(m))
			holds(t, m, []api.Cell{at(1, 1), at(-1, 7)}, goals, none(m))
		}
	}
}

func TestAllAreGoals(t *testing.T) {
	for _, m := range []api.Map{open(4, 4), open(20, 20), open(20, 4), rocks(4, 5)} {
		holds(t, m, nil, cellsOf(m), make([]int, m.W*m.H))
		holds(t, m, cellsOf(m), cellsOf(m), make([]int, m.W*m.H))
	}
}

func TestAllIsShut(t *testing.T) {
	for _, m := range []api.Map{open(7, 5), rocks(7, 5), rocks(4, 4), rocks(20, 20)} {
		for _, goal := range cellsOf(m) {
			numbers := slices.Repeat([]int{-1}, m.W*m.H)
			numbers[goal.Y*m.W+goal.X] = 0
			for _, n := range beside(m, goal) {
				numbers[n.Y*m.W+n.X] = 1
			}
			holds(t, m, cellsOf(m), []api.Cell{goal}, numbers)
		}
	}
}

func TestOpenMapsOfAllSides(t *testing.T) {
	for w := api.MinSide; w <= api.MaxSide; w++ {
		for h := api.MinSide; h <= api.MaxSide; h++ {
			m := open(w, h)
			for _, goal := range []api.Cell{at(0, 0), at(w-1, h-1), at(w-1, 0), at(0, h-1), at(w/2, h/3)} {
				var numbers []int
				for _, c := range cellsOf(m) {
					numbers = append(numbers, grid.Dist(c, goal))
				}
				holds(t, m, nil, []api.Cell{goal}, numbers)
			}
		}
	}
}

func TestOreIsFreeGround(t *testing.T) {
	m := mustRead(t, "####\n.$9.\n####\n####\n")
	holds(t, m, nil, []api.Cell{at(3, 1)}, []int{4, 3, 2, 1, 3, 2, 1, 0, 4, 3, 2, 1, -1, -1, -1, -1})
}

// winding makes a map of 20 by 20 with one long way from (0, 0), and answers its cells.
func winding() (api.Map, []api.Cell) {
	m := open(20, 20)
	var way []api.Cell
	for y := 0; y < 20; y += 2 {
		gap := 19
		if y%4 == 2 {
			gap = 0
		}
		for x := range 20 {
			step := at(x, y)
			if gap == 0 {
				step.X = 19 - x
			}
			way = append(way, step)
			if x != gap {
				m.Tiles[(y+1)*20+x] = api.Rock
			}
		}
		way = append(way, at(gap, y+1))
	}
	return m, way
}

func TestLongWays(t *testing.T) {
	m, way := winding()
	last := len(way) - 1
	there := mustMake(t, m, nil, way[last:])
	back := mustMake(t, m, nil, way[:1])
	for i, c := range way {
		if there.Far(c) != last-i || back.Far(c) != i {
			t.Fatal(c, there.Far(c), back.Far(c))
		}
		if n, ok := there.Next(c); i < last && (n != way[i+1] || !ok) {
			t.Fatal(c, n, ok)
		}
		if n, ok := back.Next(c); i > 0 && (n != way[i-1] || !ok) {
			t.Fatal(c, n, ok)
		}
	}
	holds(t, m, nil, way[last:], reckoned(m, nil, way[last:]))
	cut := mustMake(t, m, way[100:101], way[last:])
	if cut.Far(way[100]) != last-100 || cut.Far(way[99]) != -1 || cut.Far(way[0]) != -1 {
		t.Error(cut.List())
	}
}

func TestBlockedElsewhere(t *testing.T) {
	m := mustRead(t, "....\n.##.\n....\n....\n")
	goals := []api.Cell{at(0, 1)}
	numbers := []int{1, 2, 3, 4, 0, 1, 4, 5, 1, 2, 3, 4, 2, 3, 4, 5}
	holds(t, m, outsideOf(m), goals, numbers)
	// Rock that is blocked too, and a cell twice.
	holds(t, m, append(outsideOf(m), at(1, 1), at(1, 1), at(2, 1)), goals, numbers)
	many := make([]api.Cell, 100000)
	for i := range many {
		many[i] = at(i+4, i%7)
	}
	holds(t, m, many, goals, numbers)
	holds(t, m, nil, slices.Repeat(goals, 100000), numbers)
}

// P9.1: wrong inputs, and which error is named first

func holdsError(t *testing.T, m api.Map, blocked, goals []api.Cell, want api.Errno) {
	t.Helper()
	if f, e := Make(m, blocked, goals); f != nil || e != want {
		t.Errorf("Make(%v, %v, %v): %v, %d, want %d", m, blocked, goals, f, e, want)
	}
}

func TestUnformedMaps(t *testing.T) {
	odd := func(change func(m *api.Map)) api.Map {
		m := open(4, 5)
		change(&m)
		return m
	}
	for _, m := range []api.Map{
		{}, open(3, 4), open(4, 3), open(21, 4), open(4, 21), {W: 4, H: 4}, {W: math.MaxInt, H: math.MaxInt}, {W: -4, H: -4},
		odd(func(m *api.Map) { m.Tiles = m.Tiles[:19] }),
		odd(func(m *api.Map) { m.Tiles = append(m.Tiles, 0) }),
		odd(func(m *api.Map) { m.Ore = nil }),
		odd(func(m *api.Map) { m.Ore = append(m.Ore, 0) }),
		odd(func(m *api.Map) { m.Tiles[19] = 3 }),
		odd(func(m *api.Map) { m.Tiles[19] = -1 }),
		odd(func(m *api.Map) { m.Ore[19] = 1 }),
		odd(func(m *api.Map) { m.Tiles[19], m.Ore[19] = api.Ore, api.MaxOre+1 }),
		odd(func(m *api.Map) { m.Tiles[19], m.Ore[19] = api.Rock, 10 }),
	} {
		// The form is asked for ahead of the goals.
		for _, goals := range [][]api.Cell{nil, {}, {at(0, 0)}, {at(-1, 0)}, {at(0, 0), at(9, 9)}} {
			holdsError(t, m, nil, goals, api.ErrForm)
			holdsError(t, m, []api.Cell{at(1, 0)}, goals, api.ErrForm)
		}
	}
}

func TestGoalsOutside(t *testing.T) {
	for _, m := range []api.Map{open(4, 4), open(7, 4), open(4, 7), open(20, 20), rocks(5, 6)} {
		for _, c := range outsideOf(m) {
			for _, goals := range [][]api.Cell{{c}, {c, at(0, 0)}, {at(0, 0), c}, {at(1, 1), c, at(1, 1)}, append(cellsOf(m), c), {c, c}} {
				holdsError(t, m, nil, goals, api.ErrRange)
				holdsError(t, m, goals, goals, api.ErrRange)
			}
		}
	}
}

// P9.1, P9.2: against numbers that are reckoned another way

func TestAgainstReckoning(t *testing.T) {
	d := dice(90)
	for i := range 400 {
		m := scattered(&d, 4+d.below(17), 4+d.below(17), 2+i%6)
		blocked, goals := blockedOf(&d, m, 30), goalsOf(&d, m, 6)
		holds(t, m, blocked, goals, reckoned(m, blocked, goals))
	}
}

func TestAgainstReckoningOfSmallMaps(t *testing.T) {
	d := dice(91)
	for i := range 3000 {
		m := scattered(&d, 4+d.below(2), 4+d.below(2), 2+i%3)
		blocked, goals := blockedOf(&d, m, 6), goalsOf(&d, m, 4)
		holds(t, m, blocked, goals, reckoned(m, blocked, goals))
	}
}

// A field of one goal says of each cell what the ways from there to the goal say.
func TestAgainstWays(t *testing.T) {
	d := dice(92)
	for i := range 60 {
		m := scattered(&d, 4+d.below(5), 4+d.below(5), 2+i%5)
		blocked := blockedOf(&d, m, 10)
		goal := at(d.below(m.W), d.below(m.H))
		f := mustMake(t, m, blocked, []api.Cell{goal})
		for _, c := range cellsOf(m) {
			far := -1
			if way, e := path.Find(m, blocked, c, goal, math.MaxInt); e == api.OK {
				far = len(way)
			}
			step, there := path.Step(m, blocked, c, goal)
			if n, ok := f.Next(c); f.Far(c) != far || n != step || ok != there {
				t.Fatal(m, blocked, goal, c, f.Far(c), far, n, ok, step, there)
			}
		}
	}
}

// P9.3: what follows

func TestNextsLeadToAGoal(t *testing.T) {
	d := dice(93)
	for i := range 200 {
		m := scattered(&d, 4+d.below(17), 4+d.below(17), 2+i%6)
		blocked, goals := blockedOf(&d, m, 30), goalsOf(&d, m, 6)
		f := mustMake(t, m, blocked, goals)
		for _, c := range cellsOf(m) {
			left := f.Far(c)
			for ; left > 0; left-- {
				n, ok := f.Next(c)
				if !ok || grid.Dist(c, n) != 1 || !mayComeTo(m, blocked, goals, n) || f.Far(n) != left-1 {
					t.Fatal(m, blocked, goals, c, n, ok)
				}
				c = n
			}
			if _, ok := f.Next(c); ok || left == 0 && !slices.Contains(goals, c) {
				t.Fatal(m, blocked, goals, c, left)
			}
		}
	}
}

// noGreater asks that no number of a is greater than that of b, no way counting as the greatest.
func noGreater(t *testing.T, a, b []int) {
	t.Helper()
	for i := range a {
		if uint(a[i]) > uint(b[i]) {
			t.Fatal(i, a, b)
		}
	}
}

func TestOneCellMore(t *testing.T) {
	d := dice(94)
	for i := range 300 {
		m := scattered(&d, 4+d.below(17), 4+d.below(17), 2+i%6)
		blocked, goals := blockedOf(&d, m, 30), goalsOf(&d, m, 6)
		more := at(d.below(m.W), d.below(m.H))
		l := mustMake(t, m, blocked, goals).List()
		// A goal more makes no number greater, a blocked cell more none less.
		noGreater(t, mustMake(t, m, blocked, append(goals, more)).List(), l)
		noGreater(t, l, mustMake(t, m, append(blocked, more), goals).List())
	}
}

func TestTheOrderOfCellsDoesNotCount(t *testing.T) {
	d := dice(95)
	for i := range 100 {
		m := scattered(&d, 4+d.below(17), 4+d.below(17), 2+i%6)
		blocked, goals := blockedOf(&d, m, 30), goalsOf(&d, m, 6)
		numbers := mustMake(t, m, blocked, goals).List()
		slices.Reverse(blocked)
		slices.Reverse(goals)
		holds(t, m, append(blocked, blocked...), append(goals, goals...), numbers)
	}
}

func TestNilAndZeroFields(t *testing.T) {
	for _, f := range []*Field{nil, {}} {
		for _, c := range append(outsideOf(open(4, 4)), at(0, 0), at(1, 1), at(3, 3)) {
			if n, ok := f.Next(c); f.Far(c) != -1 || n != at(0, 0) || ok {
				t.Error(c, f.Far(c), n, ok)
			}
		}
		if l := f.List(); len(l) != 0 {
			t.Error(l)
		}
	}
}

// R4, R5: what is handed in is left as it is, and isn't kept; what is answered is new memory

func TestArgumentsAreLeftAlone(t *testing.T) {
	m := mustRead(t, "..3.#\n..3.#\n..3.#\n..3.#\n")
	m.Tiles = append(m.Tiles, 7, 7)[:20]
	m.Ore = append(m.Ore, 8, 8)[:20]
	blocked := []api.Cell{at(3, 0), at(3, 0), at(9, 9), at(1, 1), at(7, 7), at(8, 8)}
	goals := []api.Cell{at(4, 3), at(0, 0), at(4, 3), at(-1, 0), at(5, 5)}
	tiles, ore := slices.Clone(m.Tiles[:22]), slices.Clone(m.Ore[:22])
	shut, ends := slices.Clone(blocked), slices.Clone(goals)
	for n := range goals {
		if f, _ := Make(m, blocked[:4], goals[:n]); f != nil {
			_, _ = f.Next(at(2, 2))
			_, _ = f.Far(at(2, 2)), f.List()
		}
	}
	if !slices.Equal(m.Tiles[:22], tiles) || !slices.Equal(m.Ore[:22], ore) || !slices.Equal(blocked, shut) || !slices.Equal(goals, ends) {
		t.Error(m, blocked, goals)
	}
}

func TestArgumentsAreNotKept(t *testing.T) {
	m := mustRead(t, "....\n.##.\n....\n....\n")
	blocked, goals := []api.Cell{at(1, 0)}, []api.Cell{at(0, 0), at(3, 3)}
	f, g := mustMake(t, m, blocked, goals), mustMake(t, m, blocked, goals)
	for i := range m.Tiles {
		m.Tiles[i], m.Ore[i] = 9, 9
	}
	blocked[0], goals[0], goals[1] = at(2, 2), at(1, 1), at(9, 9)
	m.W, m.H = 1, 1
	for _, c := range cellsOf(open(4, 4)) {
		n, ok := f.Next(c)
		want, there := nextOf(mustRead(t, "....\n.##.\n....\n....\n"), []api.Cell{at(1, 0)}, []api.Cell{at(0, 0), at(3, 3)}, g.List(), c)
		if n != want || ok != there || f.Far(c) != g.Far(c) {
			t.Error(c, n, ok, want, there)
		}
	}
	if l := f.List(); !slices.Equal(l, []int{0, 1, 4, 3, 1, 2, 3, 2, 2, 3, 2, 1, 3, 2, 1, 0}) {
		t.Error(l)
	}
}

func TestListsAreNewMemory(t *testing.T) {
	f := mustMake(t, open(4, 4), nil, []api.Cell{at(0, 0)})
	want := []int{0, 1, 2, 3, 1, 2, 3, 4, 2, 3, 4, 5, 3, 4, 5, 6}
	first, second := f.List(), f.List()
	for i := range first {
		first[i] = 99
	}
	_ = append(first[:3], 88, 88)
	if third := f.List(); !slices.Equal(second, want) || !slices.Equal(third, want) || f.Far(at(3, 3)) != 6 {
		t.Error(second, third)
	}
}

// R7: two fields do not hang on one another

func TestFieldsStandAlone(t *testing.T) {
	m := open(4, 4)
	one := mustMake(t, m, nil, []api.Cell{at(0, 0)})
	two := mustMake(t, m, []api.Cell{at(1, 0)}, []api.Cell{at(3, 3)})
	if one.Far(at(3, 3)) != 6 || two.Far(at(3, 3)) != 0 || one.Far(at(2, 0)) != 2 || two.Far(at(2, 0)) != 4 {
		t.Error(one.List(), two.List())
	}
}
