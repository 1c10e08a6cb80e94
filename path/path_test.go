package path

import (
	"math"
	"slices"
	"strings"
	"testing"

	"skirmish/api"
	"skirmish/grid"
)

func at(x, y int) api.Cell { return api.Cell{X: x, Y: y} }

func open(w, h int) api.Map {
	return api.Map{W: w, H: h, Tiles: make([]int, w*h), Ore: make([]int, w*h)}
}

func mustRead(t *testing.T, text string) api.Map {
	t.Helper()
	m, e := grid.Read(text)
	if e != api.OK {
		t.Fatalf("Read(%q): %d", text, e)
	}
	return m
}

// dice makes numbers that follow from their first one.
type dice uint32

func (d *dice) below(n int) int {
	*d = *d*1664525 + 1013904223
	return int(*d>>8) % n
}

// scattered makes a map with about one rock in so many tiles, ore on some others.
func scattered(d *dice, w, h, in int) api.Map {
	m := open(w, h)
	for i := range m.Tiles {
		if d.below(in) == 0 {
			m.Tiles[i] = api.Rock
		} else if d.below(4) == 0 {
			m.Tiles[i] = api.Ore
			m.Ore[i] = d.below(api.MaxOre + 1)
		}
	}
	return m
}

// someOf answers up to most cells of m or just outside it, some of them twice perhaps.
func someOf(d *dice, m api.Map, most int) []api.Cell {
	var l []api.Cell
	for range d.below(most + 1) {
		l = append(l, at(d.below(m.W+2)-1, d.below(m.H+2)-1))
	}
	return l
}

func cellsOf(m api.Map) []api.Cell {
	var all []api.Cell
	for y := range m.H {
		for x := range m.W {
			all = append(all, at(x, y))
		}
	}
	return all
}

// isGround answers by the chapter's words whether a way may go through c.
func isGround(m api.Map, blocked []api.Cell, c api.Cell) bool {
	return m.Tiles[c.Y*m.W+c.X] != api.Rock && !slices.Contains(blocked, c)
}

// beside answers the neighbours of c: north, east, south, west, as far as they are inside.
func beside(m api.Map, c api.Cell) []api.Cell {
	var l []api.Cell
	if c.Y > 0 {
		l = append(l, at(c.X, c.Y-1))
	}
	if c.X < m.W-1 {
		l = append(l, at(c.X+1, c.Y))
	}
	if c.Y < m.H-1 {
		l = append(l, at(c.X, c.Y+1))
	}
	if c.X > 0 {
		l = append(l, at(c.X-1, c.Y))
	}
	return l
}

// search goes all ways that come to no cell twice, in the order of their steps, and keeps the first of the shortest.
type search struct {
	m       api.Map
	blocked []api.Cell
	goal    api.Cell
	now     []api.Cell
	best    []api.Cell
	found   bool
}

func (s *search) from(c api.Cell) {
	if c == s.goal {
		if !s.found || len(s.now) < len(s.best) {
			s.best, s.found = slices.Clone(s.now), true
		}
		return
	}
	for _, n := range beside(s.m, c) {
		if slices.Contains(s.now, n) || n != s.goal && !isGround(s.m, s.blocked, n) {
			continue
		}
		s.now = append(s.now, n)
		s.from(n)
		s.now = s.now[:len(s.now)-1]
	}
}

// field is how many steps it is from each cell of a map to its goal, -1 if there is no way.
type field struct {
	m    api.Map
	goal api.Cell
	// Whether a cell may be stepped to.
	enter []bool
	far   []int
}

// fieldOf goes over all cells till no number gets less.
func fieldOf(m api.Map, blocked []api.Cell, goal api.Cell) field {
	f := field{m: m, goal: goal}
	for _, c := range cellsOf(m) {
		f.enter = append(f.enter, c == goal || isGround(m, blocked, c))
		f.far = append(f.far, -1)
	}
	f.far[goal.Y*m.W+goal.X] = 0
	for changed := true; changed; {
		changed = false
		for i, c := range cellsOf(m) {
			if n := f.leastBeside(c); n >= 0 && c != goal && f.far[i] != n+1 {
				f.far[i] = n + 1
				changed = true
			}
		}
	}
	return f
}

// at answers the number of a cell that may be stepped to; -1 of others.
func (f field) at(c api.Cell) int {
	if i := c.Y*f.m.W + c.X; f.enter[i] {
		return f.far[i]
	}
	return -1
}

// leastBeside answers the least number of c's neighbours, -1 if there is none.
func (f field) leastBeside(c api.Cell) int {
	least := -1
	for _, n := range beside(f.m, c) {
		if d := f.at(n); d >= 0 && (least < 0 || d < least) {
			least = d
		}
	}
	return least
}

// way answers the shortest way from a: each time to the first neighbour of those with the least number.
func (f field) way(a api.Cell) ([]api.Cell, bool) {
	if f.far[a.Y*f.m.W+a.X] < 0 {
		return nil, false
	}
	var way []api.Cell
	for c := a; c != f.goal; {
		least := f.leastBeside(c)
		near := beside(f.m, c)
		c = near[slices.IndexFunc(near, func(n api.Cell) bool { return f.at(n) == least })]
		way = append(way, c)
	}
	return way, true
}

// holds asks that Find and Step answer just that way, and that Find's bound is the way's own length.
func holds(t *testing.T, m api.Map, blocked []api.Cell, a, b api.Cell, way []api.Cell) {
	t.Helper()
	n := len(way)
	for _, most := range []int{n, math.MaxInt} {
		if got, e := Find(m, blocked, a, b, most); e != api.OK || !slices.Equal(got, way) {
			t.Fatalf("Find(%v, %v, %v, %v, %d): %v, %d, want %v", m, blocked, a, b, most, got, e, way)
		}
	}
	for _, most := range []int{n - 1, math.MinInt} {
		if got, e := Find(m, blocked, a, b, most); e != api.ErrBudget || len(got) != 0 {
			t.Fatalf("Find(%v, %v, %v, %v, %d): %v, %d, want ErrBudget", m, blocked, a, b, most, got, e)
		}
	}
	c, ok := Step(m, blocked, a, b)
	if n == 0 && (ok || c != at(0, 0)) || n > 0 && (!ok || c != way[0]) {
		t.Fatalf("Step(%v, %v, %v, %v): %v, %v, want the first of %v", m, blocked, a, b, c, ok, way)
	}
}

// holdsNone asks that there is no way.
func holdsNone(t *testing.T, m api.Map, blocked []api.Cell, a, b api.Cell) {
	t.Helper()
	for _, most := range []int{-1, math.MaxInt} {
		if got, e := Find(m, blocked, a, b, most); e != api.ErrNone || len(got) != 0 {
			t.Fatalf("Find(%v, %v, %v, %v, %d): %v, %d, want ErrNone", m, blocked, a, b, most, got, e)
		}
	}
	if c, ok := Step(m, blocked, a, b); ok || c != at(0, 0) {
		t.Fatalf("Step(%v, %v, %v, %v): %v, %v, want none", m, blocked, a, b, c, ok)
	}
}

// P8.1 and P8.2: known ways

func TestKnownWays(t *testing.T) {
	plain := open(5, 5)
	walls := mustRead(t, "....\n.#..\n.##.\n....\n")
	for _, k := range []struct {
		m       api.Map
		blocked []api.Cell
		a, b    api.Cell
		way     []api.Cell
	}{
		// The chapter's examples.
		{plain, nil, at(0, 0), at(1, 1), []api.Cell{at(1, 0), at(1, 1)}},
		{plain, []api.Cell{at(1, 0)}, at(0, 0), at(1, 1), []api.Cell{at(0, 1), at(1, 1)}},
		// North ahead of east and west, east ahead of south, south ahead of west.
		{plain, nil, at(2, 2), at(3, 1), []api.Cell{at(2, 1), at(3, 1)}},
		{plain, nil, at(2, 2), at(3, 3), []api.Cell{at(3, 2), at(3, 3)}},
		{plain, nil, at(2, 2), at(1, 3), []api.Cell{at(2, 3), at(1, 3)}},
		{plain, nil, at(2, 2), at(1, 1), []api.Cell{at(2, 1), at(1, 1)}},
		{plain, nil, at(1, 3), at(3, 1), []api.Cell{at(1, 2), at(1, 1), at(2, 1), at(3, 1)}},
		{plain, nil, at(3, 1), at(1, 3), []api.Cell{at(3, 2), at(3, 3), at(2, 3), at(1, 3)}},
		// What comes first at the first step counts more than what comes first behind it.
		{plain, []api.Cell{at(2, 0)}, at(1, 2), at(3, 0), []api.Cell{at(1, 1), at(2, 1), at(3, 1), at(3, 0)}},
		{plain, []api.Cell{at(1, 2), at(3, 2)}, at(2, 2), at(2, 4), []api.Cell{at(2, 3), at(2, 4)}},
		// Round about is as long whichever way: to the north first.
		{plain, []api.Cell{at(2, 2)}, at(1, 2), at(3, 2), []api.Cell{at(1, 1), at(2, 1), at(3, 1), at(3, 2)}},
		{walls, nil, at(0, 0), at(3, 1), []api.Cell{at(1, 0), at(2, 0), at(3, 0), at(3, 1)}},
		{walls, nil, at(0, 3), at(2, 1), []api.Cell{at(0, 2), at(0, 1), at(0, 0), at(1, 0), at(2, 0), at(2, 1)}},
		// The shortest, though a longer one begins further to the north.
		{walls, nil, at(0, 1), at(3, 3), []api.Cell{at(0, 2), at(0, 3), at(1, 3), at(2, 3), at(3, 3)}},
	} {
		holds(t, k.m, k.blocked, k.a, k.b, k.way)
	}
	holdsNone(t, walls, []api.Cell{at(2, 0), at(2, 3)}, at(0, 0), at(3, 1))
}

func TestFromACellToItself(t *testing.T) {
	m := mustRead(t, "....\n.#9.\n....\n....\n")
	for _, c := range cellsOf(m) {
		holds(t, m, nil, c, c, nil)
		holds(t, m, []api.Cell{c}, c, c, nil)
		holds(t, m, cellsOf(m), c, c, nil)
	}
}

func TestNeighbours(t *testing.T) {
	m := mustRead(t, "....\n.#5.\n....\n...#\n")
	for _, c := range cellsOf(m) {
		for _, n := range beside(m, c) {
			holds(t, m, nil, c, n, []api.Cell{n})
			// Whatever else is shut, and both of them too.
			holds(t, m, cellsOf(m), c, n, []api.Cell{n})
		}
	}
}

func TestBeginOnShutGround(t *testing.T) {
	m := mustRead(t, "....\n.#..\n....\n....\n")
	way := []api.Cell{at(1, 0), at(2, 0), at(3, 0)}
	holds(t, m, nil, at(1, 1), at(3, 0), way)
	holds(t, m, []api.Cell{at(1, 1)}, at(1, 1), at(3, 0), way)
	holds(t, m, []api.Cell{at(0, 0)}, at(0, 0), at(2, 0), way[:2])
	// Others don't go through it, though one who began there might.
	holds(t, m, nil, at(0, 1), at(2, 1), []api.Cell{at(0, 0), at(1, 0), at(2, 0), at(2, 1)})
}

func TestEndOnShutGround(t *testing.T) {
	m := mustRead(t, "....\n....\n....\n...#\n")
	holds(t, m, nil, at(1, 3), at(3, 3), []api.Cell{at(2, 3), at(3, 3)})
	holds(t, m, []api.Cell{at(3, 3)}, at(1, 3), at(3, 3), []api.Cell{at(2, 3), at(3, 3)})
	holds(t, m, []api.Cell{at(1, 1)}, at(0, 0), at(1, 1), []api.Cell{at(1, 0), at(1, 1)})
	// Both ends.
	holds(t, m, []api.Cell{at(0, 3)}, at(3, 3), at(0, 3), []api.Cell{at(2, 3), at(1, 3), at(0, 3)})
	// Between them all must be open.
	holdsNone(t, m, []api.Cell{at(2, 3), at(3, 2)}, at(0, 0), at(3, 3))
	holdsNone(t, m, []api.Cell{at(2, 3), at(3, 2)}, at(3, 3), at(0, 0))
	holds(t, m, []api.Cell{at(2, 3)}, at(1, 3), at(3, 3), []api.Cell{at(1, 2), at(2, 2), at(3, 2), at(3, 3)})
}

func TestOreIsFreeGround(t *testing.T) {
	m := mustRead(t, "####\n.$9.\n####\n####\n")
	holds(t, m, nil, at(0, 1), at(3, 1), []api.Cell{at(1, 1), at(2, 1), at(3, 1)})
}

func TestNoWay(t *testing.T) {
	split := mustRead(t, "..#..\n..#..\n..#..\n..#..\n")
	for _, c := range cellsOf(split) {
		for _, d := range cellsOf(split) {
			if c.X < 2 && d.X > 2 {
				holdsNone(t, split, nil, c, d)
				holdsNone(t, split, nil, d, c)
			}
		}
	}
	rocks := open(6, 5)
	for i := range rocks.Tiles {
		rocks.Tiles[i] = api.Rock
	}
	for _, c := range cellsOf(rocks) {
		for _, d := range cellsOf(rocks) {
			if grid.Dist(c, d) > 1 {
				holdsNone(t, rocks, nil, c, d)
				holdsNone(t, open(6, 5), cellsOf(rocks), c, d)
			}
		}
	}
}

func TestNoCorners(t *testing.T) {
	m := mustRead(t, ".#..\n#...\n....\n....\n")
	holdsNone(t, m, nil, at(0, 0), at(1, 1))
	holdsNone(t, m, nil, at(1, 1), at(0, 0))
}

func TestBlockedElsewhere(t *testing.T) {
	outside := []api.Cell{
		at(-1, 0), at(4, 0), at(0, -1), at(0, 4), at(-1, -1), at(4, 4), at(1000, 1000), at(1<<32, 0), at(0, 1<<32),
		at(math.MaxInt, math.MaxInt), at(math.MinInt, math.MinInt), at(math.MinInt, 1), at(1, math.MaxInt),
	}
	way := []api.Cell{at(1, 0), at(2, 0), at(3, 0), at(3, 1)}
	holds(t, open(4, 4), outside, at(0, 0), at(3, 1), way)
	holds(t, open(4, 4), append(outside, at(2, 0), at(2, 0), at(2, 0)), at(0, 0), at(3, 1),
		[]api.Cell{at(1, 0), at(1, 1), at(2, 1), at(3, 1)})
	many := make([]api.Cell, 100000)
	for i := range many {
		many[i] = at(i+4, i%7)
	}
	holds(t, open(4, 4), many, at(0, 0), at(3, 1), way)
}

// P8.1: wrong inputs, and which error is named first

// outsideOf answers cells that aren't inside of m, the nearest ones and the furthest.
func outsideOf(m api.Map) []api.Cell {
	return []api.Cell{
		at(-1, 0), at(0, -1), at(m.W, 0), at(0, m.H), at(m.W-1, m.H), at(m.W, m.H-1), at(-1, -1), at(m.W, m.H),
		at(math.MaxInt, 0), at(0, math.MaxInt), at(math.MinInt, 0), at(0, math.MinInt), at(math.MaxInt, math.MinInt),
		at(1<<32, 0), at(0, 1<<32), at(1<<32, 1<<32), at(0, -m.W), at(m.W*m.H, 0),
	}
}

func TestUnformedMaps(t *testing.T) {
	odd := func(change func(m *api.Map)) api.Map {
		m := open(4, 5)
		change(&m)
		return m
	}
	for i, m := range []api.Map{
		{}, open(3, 4), open(4, 3), open(21, 4), open(4, 21), {W: 4, H: 4}, {W: math.MaxInt, H: math.MaxInt}, {W: -4, H: -4},
		odd(func(m *api.Map) { m.Tiles = m.Tiles[:19] }),
		odd(func(m *api.Map) { m.Tiles = append(m.Tiles, 0) }),
		odd(func(m *api.Map) { m.Ore = nil }),
		odd(func(m *api.Map) { m.Ore = append(m.Ore, 0) }),
		odd(func(m *api.Map) { m.Tiles[19] = 3 }),
		odd(func(m *api.Map) { m.Tiles[19] = -1 }),
		odd(func(m *api.Map) { m.Ore[19] = 1 }),
		odd(func(m *api.Map) { m.Tiles[19], m.Ore[19] = api.Ore, api.MaxOre+1 }),
		odd(func(m *api.Map) { m.Tiles[19], m.Ore[19] = api.Rock, 10 }),
	} {
		for _, c := range append(outsideOf(m), at(0, 0), at(1, 1)) {
			for _, d := range append(outsideOf(m), at(0, 0), at(1, 1), at(2, 0)) {
				for _, most := range []int{-1, 0, 9} {
					if way, e := Find(m, []api.Cell{at(1, 0)}, c, d, most); e != api.ErrForm || len(way) != 0 {
						t.Error(i, c, d, most, way, e)
					}
				}
				if s, ok := Step(m, nil, c, d); ok || s != at(0, 0) {
					t.Error(i, c, d, s, ok)
				}
			}
		}
	}
}

func TestEndsOutside(t *testing.T) {
	rocks := open(7, 4)
	for i := range rocks.Tiles {
		rocks.Tiles[i] = api.Rock
	}
	for _, m := range []api.Map{open(4, 4), open(7, 4), open(20, 20), rocks} {
		for _, c := range outsideOf(m) {
			for _, d := range append(outsideOf(m), at(0, 0), at(3, 3), at(m.W-1, m.H-1)) {
				for _, most := range []int{math.MinInt, 0, math.MaxInt} {
					there, e := Find(m, nil, c, d, most)
					back, f := Find(m, nil, d, c, most)
					if e != api.ErrRange || f != api.ErrRange || len(there)+len(back) != 0 {
						t.Error(c, d, there, e, back, f)
					}
				}
				there, ok := Step(m, nil, c, d)
				back, too := Step(m, nil, d, c)
				if ok || too || there != at(0, 0) || back != at(0, 0) {
					t.Error(c, d, there, ok, back, too)
				}
			}
		}
	}
}

func TestAllCellsInsideAreTaken(t *testing.T) {
	for w := api.MinSide; w <= api.MaxSide; w++ {
		for h := api.MinSide; h <= api.MaxSide; h++ {
			m := open(w, h)
			for _, k := range [][2]api.Cell{{at(0, 0), at(w-1, h-1)}, {at(w-1, h-1), at(0, 0)}, {at(0, h-1), at(w-1, 0)}, {at(w-1, 0), at(0, h-1)}} {
				if way, e := Find(m, nil, k[0], k[1], w+h-2); e != api.OK || len(way) != w+h-2 || way[len(way)-1] != k[1] {
					t.Error(w, h, k, way, e)
				}
			}
		}
	}
}

// P8.1: the longest ways

// winding makes a map of 20 by 20 with one long way from (0, 0) to (19 or 0, 18), and answers that way.
func winding() (api.Map, []api.Cell) {
	m := open(20, 20)
	var way []api.Cell
	for y := 0; y < 20; y += 2 {
		gap := 19
		if y%4 == 2 {
			gap = 0
		}
		for x := range 20 {
			step := at(x, y)
			if gap == 0 {
				step.X = 19 - x
			}
			way = append(way, step)
			if x != gap {
				m.Tiles[(y+1)*20+x] = api.Rock
			}
		}
		way = append(way, at(gap, y+1))
	}
	return m, way
}

func TestLongWays(t *testing.T) {
	m, way := winding()
	if len(way) != 210 {
		t.Fatal(len(way))
	}
	for i, a := range way {
		for _, j := range []int{i, min(i+1, 209), min(i+57, 209), 209} {
			holds(t, m, nil, a, way[j], way[i+1:j+1])
		}
	}
	back := slices.Clone(way)
	slices.Reverse(back)
	holds(t, m, nil, back[0], back[209], back[1:])
	holdsNone(t, m, []api.Cell{way[105]}, way[0], way[209])
}

// P8.1: against all ways

func TestAgainstAllWays(t *testing.T) {
	d := dice(8)
	for i := range 60 {
		m := scattered(&d, 4+d.below(2), 4+d.below(2), 3)
		blocked := someOf(&d, m, 4)
		for _, a := range cellsOf(m) {
			for _, b := range cellsOf(m) {
				s := search{m: m, blocked: blocked, goal: b}
				s.from(a)
				if s.found {
					holds(t, m, blocked, a, b, s.best)
				} else {
					holdsNone(t, m, blocked, a, b)
				}
			}
		}
		if t.Failed() {
			t.Fatal(i)
		}
	}
}

func TestAgainstAllWaysOfAnOpenMap(t *testing.T) {
	m := open(4, 4)
	for _, a := range cellsOf(m) {
		for _, b := range cellsOf(m) {
			s := search{m: m, goal: b}
			s.from(a)
			holds(t, m, nil, a, b, s.best)
		}
	}
}

// P8.1, P8.2: against distances that are reckoned another way

// holdsFrom holds the way from a against the field of its goal.
func holdsFrom(t *testing.T, f field, blocked []api.Cell, a api.Cell) {
	t.Helper()
	if way, ok := f.way(a); ok {
		holds(t, f.m, blocked, a, f.goal, way)
	} else {
		holdsNone(t, f.m, blocked, a, f.goal)
	}
}

func TestAgainstDistances(t *testing.T) {
	d := dice(80)
	for _, k := range []struct{ w, h, in, blocked int }{
		{4, 20, 4, 3}, {20, 4, 4, 3}, {9, 7, 3, 6}, {7, 9, 2, 6}, {10, 8, 5, 12}, {6, 6, 400, 0}, {6, 13, 3, 40},
	} {
		m := scattered(&d, k.w, k.h, k.in)
		blocked := someOf(&d, m, k.blocked)
		for _, b := range cellsOf(m) {
			f := fieldOf(m, blocked, b)
			for _, a := range cellsOf(m) {
				holdsFrom(t, f, blocked, a)
			}
		}
	}
}

func TestAgainstDistancesOfGreatMaps(t *testing.T) {
	d := dice(81)
	for i := range 60 {
		m := scattered(&d, 20, 20, 2+i%7)
		blocked := someOf(&d, m, 40)
		all := cellsOf(m)
		f := fieldOf(m, blocked, all[d.below(400)])
		for range 25 {
			holdsFrom(t, f, blocked, all[d.below(400)])
		}
	}
}

// P8.3: what follows

func TestEachCellIsFollowedByTheShortestWay(t *testing.T) {
	d := dice(83)
	for range 40 {
		m := scattered(&d, 4+d.below(17), 4+d.below(17), 4)
		blocked := someOf(&d, m, 10)
		all := cellsOf(m)
		for range 20 {
			a, b := all[d.below(len(all))], all[d.below(len(all))]
			way, e := Find(m, blocked, a, b, math.MaxInt)
			for i, c := range way {
				rest, f := Find(m, blocked, c, b, len(way)-i-1)
				if e != api.OK || f != api.OK || !slices.Equal(rest, way[i+1:]) {
					t.Fatal(m, blocked, a, b, way, i, rest, e, f)
				}
			}
		}
	}
}

func TestStepsLeadThere(t *testing.T) {
	d := dice(84)
	for range 40 {
		m := scattered(&d, 4+d.below(17), 4+d.below(17), 4)
		blocked := someOf(&d, m, 10)
		all := cellsOf(m)
		a, b := all[d.below(len(all))], all[d.below(len(all))]
		way, _ := Find(m, blocked, a, b, math.MaxInt)
		c := a
		for _, want := range way {
			next, ok := Step(m, blocked, c, b)
			if !ok || next != want {
				t.Fatal(m, blocked, a, b, c, next, ok)
			}
			c = next
		}
		if len(way) > 0 && c != b {
			t.Fatal(m, blocked, a, b, way)
		}
	}
}

// R4, R5: what is handed in is left as it is; what is answered is new memory

func TestArgumentsAreLeftAlone(t *testing.T) {
	text := strings.Repeat("..3.#\n", 5)
	m, blocked := mustRead(t, text), []api.Cell{at(3, 0), at(3, 0), at(9, 9), at(1, 1), at(7, 7), at(8, 8)}
	m.Tiles = append(m.Tiles, 7, 7)[:25]
	m.Ore = append(m.Ore, 8, 8)[:25]
	tiles, ore, cells := slices.Clone(m.Tiles[:27]), slices.Clone(m.Ore[:27]), slices.Clone(blocked)
	for _, k := range [][2]api.Cell{{at(0, 0), at(3, 4)}, {at(4, 0), at(4, 4)}, {at(0, 0), at(-1, 0)}, {at(0, 0), at(0, 0)}} {
		_, _ = Find(m, blocked[:4], k[0], k[1], 9)
		_, _ = Step(m, blocked[:4], k[0], k[1])
	}
	if !slices.Equal(m.Tiles[:27], tiles) || !slices.Equal(m.Ore[:27], ore) || !slices.Equal(blocked, cells) {
		t.Error(m, blocked)
	}
}

func TestAnswersAreNewMemory(t *testing.T) {
	m := open(4, 4)
	blocked := []api.Cell{at(1, 0)}
	want := []api.Cell{at(0, 1), at(1, 1), at(2, 1), at(3, 1)}
	first, _ := Find(m, blocked, at(0, 0), at(3, 1), 9)
	second, _ := Find(m, blocked, at(0, 0), at(3, 1), 9)
	for i := range first {
		first[i] = at(9, 9)
	}
	_ = append(first[:2], at(8, 8), at(8, 8))
	third, _ := Find(m, blocked, at(0, 0), at(3, 1), 9)
	if !slices.Equal(second, want) || !slices.Equal(third, want) || blocked[0] != at(1, 0) {
		t.Error(second, third, blocked)
	}
}
