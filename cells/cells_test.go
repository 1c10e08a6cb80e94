package cells

import (
	"math"
	"slices"
	"testing"

	"skirmish/api"
)

func at(x, y int) api.Cell { return api.Cell{X: x, Y: y} }

// place is an ID and its cell, as the tests write them down.
type place struct {
	id int
	c  api.Cell
}

// wrong are cells that are just outside, far outside, or so far that sums of their numbers wrap round.
var wrong = []api.Cell{
	{X: 1001, Y: 0}, {X: -1001, Y: 0}, {X: 0, Y: 1001}, {X: 0, Y: -1001}, {X: 1001, Y: 1001}, {X: -1001, Y: -1001},
	{X: 1000, Y: 1001}, {X: -1001, Y: -1000}, {X: 5000, Y: -5000}, {X: 1 << 32, Y: 0}, {X: 0, Y: 1 << 32},
	{X: math.MaxInt, Y: 0}, {X: math.MinInt, Y: 0}, {X: 0, Y: math.MaxInt}, {X: 0, Y: math.MinInt},
	{X: math.MaxInt, Y: math.MaxInt}, {X: math.MinInt, Y: math.MinInt},
}

// edges are the outermost cells that may be.
var edges = []api.Cell{
	{X: 1000, Y: 1000}, {X: -1000, Y: 1000}, {X: 1000, Y: -1000}, {X: -1000, Y: -1000}, {X: 1000, Y: 0}, {X: 0, Y: -1000},
}

func made(t *testing.T, l ...place) *Index {
	t.Helper()
	x := New()
	for _, p := range l {
		mustPut(t, x, p.id, p.c)
	}
	return x
}

func mustPut(t *testing.T, x *Index, id int, c api.Cell) {
	t.Helper()
	if e := x.Put(id, c); e != api.OK {
		t.Fatalf("Put(%d, %v): %d", id, c, e)
	}
}

// far reckons the distance by the chapters' words, for numbers of at most some thousands.
func far(a, b api.Cell) int {
	for _, n := range []int{a.X, a.Y, b.X, b.Y} {
		if n < -1000 || n > 1000 {
			return 1000000
		}
	}
	return max(a.X-b.X, b.X-a.X) + max(a.Y-b.Y, b.Y-a.Y)
}

// around finds by a plain walk through all places what Around must answer.
func around(l []place, c api.Cell, r int) []int {
	l = slices.Clone(l)
	slices.SortFunc(l, func(p, q place) int {
		if d := far(p.c, c) - far(q.c, c); d != 0 {
			return d
		}
		if p.id < q.id {
			return -1
		}
		return 1
	})
	var out []int
	for _, p := range l {
		if far(p.c, c) <= r {
			out = append(out, p.id)
		}
	}
	return out
}

func idsAt(l []place, c api.Cell) []int {
	var out []int
	for _, p := range l {
		if p.c.X == c.X && p.c.Y == c.Y {
			out = append(out, p.id)
		}
	}
	slices.Sort(out)
	return out
}

func firstBut(ids []int, but int) (int, bool) {
	for _, id := range ids {
		if id != but {
			return id, true
		}
	}
	return 0, false
}

// holds asks that an index has just these IDs at just these cells.
func holds(t *testing.T, x *Index, l ...place) {
	t.Helper()
	if x.Len() != len(l) {
		t.Errorf("Len: %d, want %d", x.Len(), len(l))
	}
	for _, p := range l {
		if c, ok := x.Where(p.id); c != p.c || !ok {
			t.Errorf("Where(%d): %v, %v, want %v", p.id, c, ok, p.c)
		}
		if got, want := x.Who(p.c), idsAt(l, p.c); !slices.Equal(got, want) {
			t.Errorf("Who(%v): %v, want %v", p.c, got, want)
		}
	}
	if got, want := x.Around(at(0, 0), 4000), around(l, at(0, 0), 4000); !slices.Equal(got, want) {
		t.Errorf("Around: %v, want %v", got, want)
	}
}

// asks holds Around and Closest against the plain walk.
func asks(t *testing.T, x *Index, l []place, c api.Cell, r int) {
	t.Helper()
	want := around(l, c, r)
	if got := x.Around(c, r); !slices.Equal(got, want) {
		t.Errorf("Around(%v, %d): %v, want %v", c, r, got, want)
	}
	buts := []int{0, -1, math.MaxInt, math.MinInt}
	for _, but := range append(buts, want[:min(3, len(want))]...) {
		first, is := firstBut(want, but)
		if got, ok := x.Closest(c, r, but); got != first || ok != is {
			t.Errorf("Closest(%v, %d, %d): %d, %v, want %d, %v", c, r, but, got, ok, first, is)
		}
	}
}

// P7.1

func TestNewIsEmpty(t *testing.T) {
	x := New()
	if x == nil {
		t.Fatal("New: nil")
	}
	holds(t, x)
	if c, ok := x.Where(0); c != at(0, 0) || ok {
		t.Error(c, ok)
	}
	if e := x.Take(0); e != api.ErrNone {
		t.Error(e)
	}
}

func TestNewIsOfItsOwn(t *testing.T) {
	a, b := New(), New()
	mustPut(t, a, 1, at(2, 3))
	holds(t, b)
	mustPut(t, b, 1, at(4, 5))
	holds(t, a, place{1, at(2, 3)})
}

func TestPutTakesAnyNumberAsAnID(t *testing.T) {
	x := New()
	var l []place
	for i, id := range []int{0, 1, -1, 4096, 1 << 40, math.MaxInt, math.MinInt} {
		mustPut(t, x, id, at(i%2, 7))
		l = append(l, place{id, at(i%2, 7)})
		holds(t, x, l...)
	}
}

func TestPutMoves(t *testing.T) {
	x := made(t, place{5, at(1, 1)}, place{3, at(1, 1)}, place{4, at(3, 1)})
	mustPut(t, x, 5, at(9, 9))
	holds(t, x, place{5, at(9, 9)}, place{3, at(1, 1)}, place{4, at(3, 1)})
	mustPut(t, x, 3, at(9, 9))
	holds(t, x, place{5, at(9, 9)}, place{3, at(9, 9)}, place{4, at(3, 1)})
	if l := x.Who(at(1, 1)); len(l) != 0 {
		t.Error("left behind:", l)
	}
	mustPut(t, x, 5, at(1, 1))
	holds(t, x, place{5, at(1, 1)}, place{3, at(9, 9)}, place{4, at(3, 1)})
}

func TestPutWhereItIs(t *testing.T) {
	l := []place{{5, at(1, 1)}, {3, at(1, 1)}, {4, at(3, 1)}}
	x := made(t, l...)
	for _, p := range l {
		mustPut(t, x, p.id, p.c)
		holds(t, x, l...)
	}
}

func TestPutKeepsXAndYApart(t *testing.T) {
	l := []place{{1, at(2, 5)}, {2, at(5, 2)}, {3, at(-2, 5)}, {4, at(2, -5)}}
	holds(t, made(t, l...), l...)
}

func TestPutTakesTheOutermostCells(t *testing.T) {
	var l []place
	for i, c := range edges {
		l = append(l, place{i, c})
	}
	holds(t, made(t, l...), l...)
}

func TestPutRefusesCellsOutside(t *testing.T) {
	l := []place{{5, at(1, 1)}, {3, at(1000, -1000)}}
	x := made(t, l...)
	for _, c := range wrong {
		for _, id := range []int{7, 5, 3} {
			if e := x.Put(id, c); e != api.ErrRange {
				t.Errorf("Put(%d, %v): %d", id, c, e)
			}
			if got := x.Who(c); len(got) != 0 {
				t.Errorf("Who(%v): %v", c, got)
			}
		}
	}
	holds(t, x, l...)
	if e := x.Take(7); e != api.ErrNone {
		t.Error(e)
	}
}

// filled answers an index of 4096 IDs, 0 to 4095, and what is in it.
func filled(t *testing.T) (*Index, []place) {
	t.Helper()
	x := New()
	var l []place
	for id := range 4096 {
		p := place{id, at(id%64-32, id/64%32)}
		mustPut(t, x, p.id, p.c)
		l = append(l, p)
	}
	return x, l
}

func TestPutRefusesOneTooMany(t *testing.T) {
	x, l := filled(t)
	for _, id := range []int{4096, -1, math.MaxInt} {
		for _, c := range []api.Cell{l[0].c, at(700, 700)} {
			if e := x.Put(id, c); e != api.ErrFull {
				t.Errorf("Put(%d, %v): %d", id, c, e)
			}
		}
		// Both are wrong: the cell is asked about first.
		if e := x.Put(id, at(0, 1001)); e != api.ErrRange {
			t.Error(e)
		}
	}
	holds(t, x, l...)
}

func TestPutMovesInAFullIndex(t *testing.T) {
	x, l := filled(t)
	mustPut(t, x, 0, l[0].c)
	for _, id := range []int{0, 17, 4095} {
		l[id].c = at(-900, id%1000)
		mustPut(t, x, id, l[id].c)
	}
	holds(t, x, l...)
	if e := x.Put(4096, at(0, 0)); e != api.ErrFull {
		t.Error(e)
	}
	if e := x.Take(17); e != api.OK {
		t.Error(e)
	}
	mustPut(t, x, 4096, at(0, 0))
	if e := x.Put(17, at(0, 0)); e != api.ErrFull || x.Len() != 4096 {
		t.Error(e, x.Len())
	}
}

func TestAllAtOneCell(t *testing.T) {
	x := New()
	var want []int
	for i := range 4096 {
		mustPut(t, x, i*2731%4096, at(3, 3))
		want = append(want, i)
	}
	if got := x.Who(at(3, 3)); !slices.Equal(got, want) {
		t.Error(got)
	}
	if got := x.Around(at(3, 4), 1); !slices.Equal(got, want) {
		t.Error(got)
	}
	for i := range 4096 {
		if e := x.Take(i * 1365 % 4096); e != api.OK || x.Len() != 4095-i {
			t.Fatal(i, e, x.Len())
		}
	}
	holds(t, x)
}

func TestTake(t *testing.T) {
	x := made(t, place{5, at(1, 1)}, place{3, at(1, 1)}, place{4, at(3, 1)})
	for _, id := range []int{0, 1, 6, -3, math.MaxInt} {
		if e := x.Take(id); e != api.ErrNone {
			t.Error(id, e)
		}
	}
	if e := x.Take(3); e != api.OK {
		t.Error(e)
	}
	holds(t, x, place{5, at(1, 1)}, place{4, at(3, 1)})
	if c, ok := x.Where(3); c != at(0, 0) || ok {
		t.Error(c, ok)
	}
	if e := x.Take(3); e != api.ErrNone {
		t.Error(e)
	}
	if e := x.Take(4); e != api.OK || len(x.Who(at(3, 1))) != 0 {
		t.Error(e)
	}
	mustPut(t, x, 3, at(3, 1))
	holds(t, x, place{5, at(1, 1)}, place{3, at(3, 1)})
}

// P7.2

func TestExamples(t *testing.T) {
	x := made(t, place{5, at(1, 1)}, place{3, at(1, 1)}, place{4, at(3, 1)})
	if l := x.Who(at(1, 1)); !slices.Equal(l, []int{3, 5}) {
		t.Error(l)
	}
	if l := x.Around(at(2, 1), 1); !slices.Equal(l, []int{3, 4, 5}) {
		t.Error(l)
	}
	if id, ok := x.Closest(at(3, 1), 2, 4); id != 3 || !ok {
		t.Error(id, ok)
	}
	mustPut(t, x, 5, at(9, 9))
	if l := x.Who(at(1, 1)); !slices.Equal(l, []int{3}) {
		t.Error(l)
	}
}

func TestWhoOfCellsWithoutIDs(t *testing.T) {
	x := made(t, place{5, at(1, 2)}, place{0, at(0, 3)})
	for _, c := range append([]api.Cell{at(0, 0), at(2, 1), at(1, 1), at(-1, -2)}, wrong...) {
		if l := x.Who(c); len(l) != 0 {
			t.Error(c, l)
		}
	}
}

func TestAroundGoesByDistanceThenID(t *testing.T) {
	l := []place{{9, at(0, 0)}, {8, at(1, 0)}, {1, at(0, 2)}, {7, at(0, -1)}, {2, at(-1, -1)}, {-4, at(1, 1)}, {6, at(2, 0)}}
	x := made(t, l...)
	if got := x.Around(at(0, 0), 2); !slices.Equal(got, []int{9, 7, 8, -4, 1, 2, 6}) {
		t.Error(got)
	}
	if got := x.Around(at(0, 0), 1); !slices.Equal(got, []int{9, 7, 8}) {
		t.Error(got)
	}
	if got := x.Around(at(0, 0), 0); !slices.Equal(got, []int{9}) {
		t.Error(got)
	}
	for _, r := range []int{-1, -2, math.MinInt} {
		asks(t, x, l, at(0, 0), r)
	}
	for _, r := range []int{3, 4000, 999999, 1000000, math.MaxInt} {
		asks(t, x, l, at(0, 0), r)
	}
}

func TestAroundIsMeasuredInXAndYTogether(t *testing.T) {
	l := []place{{1, at(2, 2)}, {2, at(3, 0)}, {3, at(0, -4)}}
	x := made(t, l...)
	if got := x.Around(at(0, 0), 3); !slices.Equal(got, []int{2}) {
		t.Error(got)
	}
	if got := x.Around(at(0, 0), 4); !slices.Equal(got, []int{2, 1, 3}) {
		t.Error(got)
	}
}

func TestAroundAtTheEdges(t *testing.T) {
	var l []place
	for i, c := range edges {
		l = append(l, place{10 - i, c})
	}
	x := made(t, l...)
	for _, c := range edges {
		for _, r := range []int{0, 999, 1000, 1999, 2000, 3000, 3999, 4000} {
			asks(t, x, l, c, r)
		}
	}
}

func TestAroundACellThatIsNotMeasured(t *testing.T) {
	l := []place{{5, at(1000, 0)}, {3, at(1, 1)}, {4, at(1000, 1)}}
	x := made(t, l...)
	for _, c := range wrong {
		for _, r := range []int{0, 1, 4000, 999999} {
			asks(t, x, l, c, r)
			if got := x.Around(c, r); len(got) != 0 {
				t.Error(c, r, got)
			}
		}
		// grid.Dist says 1000000 there: who asks as far as that is answered all, by their IDs.
		for _, r := range []int{1000000, 1000001, math.MaxInt} {
			asks(t, x, l, c, r)
			if got := x.Around(c, r); !slices.Equal(got, []int{3, 4, 5}) {
				t.Error(c, r, got)
			}
		}
	}
}

func TestClosest(t *testing.T) {
	x := made(t, place{5, at(1, 1)}, place{3, at(1, 1)}, place{4, at(3, 1)}, place{0, at(5, 1)}, place{-9, at(7, 1)})
	for _, k := range []struct {
		c       api.Cell
		r, but  int
		id      int
		isThere bool
	}{
		{at(1, 1), 0, 9, 3, true}, {at(1, 1), 0, 3, 5, true}, {at(1, 1), 0, 5, 3, true},
		{at(2, 1), 0, 9, 0, false}, {at(2, 1), 1, 9, 3, true}, {at(2, 1), 1, 3, 4, true},
		{at(3, 1), 1, 4, 0, false}, {at(3, 1), 2, 4, 0, true}, {at(3, 1), 2, 9, 4, true},
		{at(5, 1), 0, 9, 0, true}, {at(5, 1), 0, 0, 0, false}, {at(5, 1), 1, 0, 0, false}, {at(5, 1), 2, 0, -9, true},
		{at(5, 1), -1, 9, 0, false}, {at(7, 1), 0, 0, -9, true}, {at(7, 1), 0, -9, 0, false},
	} {
		if id, ok := x.Closest(k.c, k.r, k.but); id != k.id || ok != k.isThere {
			t.Errorf("Closest(%v, %d, %d): %d, %v", k.c, k.r, k.but, id, ok)
		}
	}
}

func TestClosestOfTheExampleWithoutAnyNear(t *testing.T) {
	if id, ok := New().Closest(at(0, 0), 0, 0); id != 0 || ok {
		t.Error(id, ok)
	}
	if id, ok := made(t, place{4, at(3, 1)}).Closest(at(3, 1), 4000, 4); id != 0 || ok {
		t.Error(id, ok)
	}
}

func TestAnswersAreNewMemory(t *testing.T) {
	l := []place{{5, at(1, 1)}, {3, at(1, 1)}, {4, at(1, 1)}, {9, at(1, 2)}}
	x := made(t, l...)
	for _, ask := range []func() []int{
		func() []int { return x.Who(at(1, 1)) },
		func() []int { return x.Around(at(1, 1), 0) },
	} {
		first, second := ask(), ask()
		first[0], first[1] = 70, 71
		_ = append(first[:1], 80, 81, 82, 83)
		_ = append(first, 90)
		if !slices.Equal(second, []int{3, 4, 5}) {
			t.Error(second)
		}
		holds(t, x, l...)
	}
	kept := x.Who(at(1, 1))
	x.Take(3)
	x.Put(1, at(1, 1))
	if !slices.Equal(kept, []int{3, 4, 5}) {
		t.Error("an answer changed:", kept)
	}
}

func TestAskingChangesNothing(t *testing.T) {
	l := []place{{5, at(1, 1)}, {3, at(2, 1)}}
	x := made(t, l...)
	for range 3 {
		x.Who(at(7, 7))
		x.Around(at(7, 7), 3)
		x.Closest(at(7, 7), 30, 5)
		x.Where(88)
		holds(t, x, l...)
	}
	if len(x.at) != 2 || len(x.where) != 2 {
		t.Error(x.at, x.where)
	}
}

func TestNoEmptyCellIsKept(t *testing.T) {
	x := New()
	for i := range 2000 {
		mustPut(t, x, 1, at(i-1000, i/2))
		mustPut(t, x, 2, at(i-1000, i/3))
	}
	if len(x.at) > 2 || len(x.where) != 2 {
		t.Error(len(x.at), len(x.where))
	}
	x.Take(1)
	x.Take(2)
	if len(x.at) != 0 || len(x.where) != 0 {
		t.Error(len(x.at), len(x.where))
	}
}

// P7.3

func TestNilIndex(t *testing.T) {
	var x *Index
	holds(t, x)
	for _, c := range append([]api.Cell{at(0, 0), at(1000, -1000)}, wrong...) {
		if e := x.Put(1, c); e != api.ErrState {
			t.Error(c, e)
		}
		if l := x.Who(c); len(l) != 0 {
			t.Error(c, l)
		}
		asks(t, x, nil, c, math.MaxInt)
	}
	if e := x.Take(1); e != api.ErrNone {
		t.Error(e)
	}
	if c, ok := x.Where(0); c != at(0, 0) || ok {
		t.Error(c, ok)
	}
}

func TestZeroIndex(t *testing.T) {
	var x Index
	holds(t, &x)
	if e := x.Take(1); e != api.ErrNone {
		t.Error(e)
	}
	if e := x.Put(1, at(1001, 0)); e != api.ErrRange {
		t.Error(e)
	}
	asks(t, &x, nil, at(0, 0), 4000)
	other := x
	mustPut(t, &x, 1, at(2, 3))
	mustPut(t, &x, 0, at(2, 3))
	holds(t, &x, place{1, at(2, 3)}, place{0, at(2, 3)})
	holds(t, &other)
}

// All promises together: many steps against a plain list.

func TestManySteps(t *testing.T) {
	seed := uint32(7)
	draw := func(n int) int {
		seed = seed*1664525 + 1013904223
		return int(seed>>8) % n
	}
	x := New()
	var l []place
	for step := range 6000 {
		id, c := draw(60)-10, at(draw(9)-4, draw(9)-4)
		i := slices.IndexFunc(l, func(p place) bool { return p.id == id })
		switch {
		case draw(3) > 0:
			mustPut(t, x, id, c)
			if i < 0 {
				l = append(l, place{id, c})
			} else {
				l[i].c = c
			}
		case i < 0:
			if e := x.Take(id); e != api.ErrNone {
				t.Fatal(step, id, e)
			}
		default:
			if e := x.Take(id); e != api.OK {
				t.Fatal(step, id, e)
			}
			l = slices.Delete(l, i, i+1)
		}
		if got, want := x.Who(c), idsAt(l, c); !slices.Equal(got, want) {
			t.Fatal(step, c, got, want)
		}
		asks(t, x, l, c, draw(8)-1)
	}
	holds(t, x, l...)
}
