package roster

import (
	"math"
	"slices"
	"testing"

	"skirmish/api"
)

const top = math.MaxInt32

func at(x, y int) api.Cell { return api.Cell{X: x, Y: y} }

// full answers an entity all of whose fields are unlike zero and follow from n.
func full(id, n int) api.Entity {
	return api.Entity{
		ID: id, Owner: n % 3, Kind: 1 + n%4, At: at(n%5, n%7), HP: 10 + n, Doing: 1 + n%3,
		Goal: at(20+n, 30+n), Target: 40 + n, Load: 50 + n,
	}
}

// rows answers entities with these IDs.
func rows(ids ...int) []api.Entity {
	var out []api.Entity
	for i, id := range ids {
		out = append(out, full(id, i+1))
	}
	return out
}

func idsOf(l []api.Entity) []int {
	var out []int
	for _, e := range l {
		out = append(out, e.ID)
	}
	return out
}

func count(from, to int) []int {
	var out []int
	for i := from; i <= to; i++ {
		out = append(out, i)
	}
	return out
}

func mustFrom(t *testing.T, l []api.Entity, next int) *Table {
	t.Helper()
	r, e := From(l, next)
	if r == nil || e != api.OK {
		t.Fatalf("From(%v, %d): %v, %d", idsOf(l), next, r, e)
	}
	return r
}

// holds asks that a table has just these entities and that next ID, by all that it answers.
func holds(t *testing.T, r *Table, want []api.Entity, next int) {
	t.Helper()
	if got := r.List(); !slices.Equal(got, want) {
		t.Errorf("List: %v, want %v", got, want)
	}
	if got := r.Next(); got != next {
		t.Errorf("Next: %d, want %d", got, next)
	}
	for _, w := range want {
		if got, e := r.Get(w.ID); got != w || e != api.OK {
			t.Errorf("Get(%d): %v, %d, want %v", w.ID, got, e, w)
		}
	}
	for owner := -1; owner <= 4; owner++ {
		if got := r.Of(owner); !slices.Equal(got, ownedBy(want, owner)) {
			t.Errorf("Of(%d): %v, want %v", owner, got, ownedBy(want, owner))
		}
	}
	for x := -1; x <= 5; x++ {
		for y := -1; y <= 7; y++ {
			got, ok := r.At(at(x, y))
			if first, is := leastAt(want, at(x, y)); got != first || ok != is {
				t.Errorf("At(%d, %d): %v, %v, want %v, %v", x, y, got, ok, first, is)
			}
		}
	}
}

func ownedBy(l []api.Entity, owner int) []int {
	var out []int
	for _, e := range l {
		if e.Owner == owner {
			out = append(out, e.ID)
		}
	}
	slices.Sort(out)
	return out
}

func leastAt(l []api.Entity, c api.Cell) (api.Entity, bool) {
	var least api.Entity
	found := false
	for _, e := range l {
		if e.At.X == c.X && e.At.Y == c.Y && (!found || e.ID < least.ID) {
			least, found = e, true
		}
	}
	return least, found
}

// P6.1

func TestNewHasNoEntitiesAndGivesOneFirst(t *testing.T) {
	r := New()
	if r == nil {
		t.Fatal("New: nil")
	}
	holds(t, r, nil, 1)
	if id, e := r.Insert(full(0, 1)); id != 1 || e != api.OK {
		t.Error(id, e)
	}
}

func TestFromHoldsWhatItIsGiven(t *testing.T) {
	for _, c := range []struct {
		ids  []int
		next int
	}{
		{nil, 1}, {nil, 7}, {nil, top}, {[]int{}, 2},
		{[]int{1}, 2}, {[]int{1}, 3}, {[]int{5}, 6}, {[]int{2, 3}, 4}, {[]int{1, 9, 30}, 77},
		{[]int{top - 1}, top}, {[]int{1, top - 1}, top},
		{count(1, api.MaxEntities), api.MaxEntities + 1}, {count(100, 99+api.MaxEntities), 1000},
	} {
		holds(t, mustFrom(t, rows(c.ids...), c.next), rows(c.ids...), c.next)
	}
}

func TestFromOfNoEntitiesAsksNoMoreOfNextThanItsTop(t *testing.T) {
	for _, next := range []int{0, -1, -top, math.MinInt} {
		r := mustFrom(t, nil, next)
		holds(t, r, nil, next)
		if id, e := r.Insert(full(9, 2)); id != next || e != api.OK {
			t.Error(id, e)
		}
		holds(t, r, []api.Entity{full(next, 2)}, next+1)
	}
}

func TestFromRefusesTooMany(t *testing.T) {
	for _, l := range [][]api.Entity{
		rows(count(1, api.MaxEntities+1)...),
		rows(count(1, 100)...),
		make([]api.Entity, api.MaxEntities+1),
	} {
		for _, next := range []int{1000, 1, top, top + 1} {
			if r, e := From(l, next); r != nil || e != api.ErrFull {
				t.Errorf("%d entities, next %d: %v, %d", len(l), next, r, e)
			}
		}
	}
}

func TestFromRefusesIDsThatAreNotRisingBelowNext(t *testing.T) {
	for _, c := range []struct {
		ids  []int
		next int
	}{
		{[]int{2, 2}, 9}, {[]int{3, 2}, 9}, {[]int{1, 5, 4}, 9}, {[]int{1, 5, 1}, 9}, {[]int{2, 1, 3}, 9},
		{[]int{0}, 9}, {[]int{-1}, 9}, {[]int{0, 1}, 9}, {[]int{-2, -1}, 9}, {[]int{math.MinInt}, 9},
		{[]int{2}, 2}, {[]int{2}, 1}, {[]int{1}, 0}, {[]int{1}, -1}, {[]int{1, 2, 3}, 3}, {[]int{1, 2, 9}, 3},
		{[]int{1, math.MaxInt}, top}, {[]int{top}, top},
		{nil, top + 1}, {nil, math.MaxInt}, {[]int{1}, top + 1}, {[]int{top}, top + 1}, {[]int{1, 2}, math.MaxInt},
		{slices.Concat(count(1, api.MaxEntities-1), []int{1}), 1000},
	} {
		if r, e := From(rows(c.ids...), c.next); r != nil || e != api.ErrForm {
			t.Errorf("From(%v, %d): %v, %d", c.ids, c.next, r, e)
		}
	}
}

func TestFromNeitherKeepsNorChangesItsList(t *testing.T) {
	room := rows(1, 4, 6, 8)
	before := slices.Clone(room)
	r := mustFrom(t, room[:2], 7)
	r.Insert(full(0, 9))
	r.Set(full(4, 8))
	r.Remove(1)
	if !slices.Equal(room, before) {
		t.Errorf("the list is now %v", room)
	}
	room[0], room[1] = full(30, 1), full(31, 1)
	holds(t, r, []api.Entity{full(4, 8), full(7, 9)}, 8)
}

func TestListIsNewMemory(t *testing.T) {
	r := mustFrom(t, rows(1, 4, 6), 7)
	first, second := r.List(), r.List()
	first[0] = full(99, 9)
	_ = append(first[:1], full(98, 9), full(97, 9), full(96, 9))
	if !slices.Equal(second, rows(1, 4, 6)) {
		t.Error("two lists share memory")
	}
	holds(t, r, rows(1, 4, 6), 7)

	second = r.List()
	r.Set(full(4, 9))
	r.Remove(1)
	r.Insert(full(0, 8))
	if !slices.Equal(second, rows(1, 4, 6)) {
		t.Error("a list that was answered follows the table")
	}
}

// P6.2

func TestInsertGivesTheNextIDAndKeepsTheRest(t *testing.T) {
	r := New()
	var want []api.Entity
	for i := 1; i <= api.MaxEntities; i++ {
		given := full(1000-i, i)
		if id, e := r.Insert(given); id != i || e != api.OK {
			t.Fatalf("Insert %d: %d, %d", i, id, e)
		}
		given.ID = i
		want = append(want, given)
		holds(t, r, want, i+1)
	}
}

func TestInsertIntoAFullTable(t *testing.T) {
	r := mustFrom(t, rows(count(3, 2+api.MaxEntities)...), 50)
	for range 2 {
		if id, e := r.Insert(full(0, 1)); id != 0 || e != api.ErrFull {
			t.Error(id, e)
		}
		holds(t, r, rows(count(3, 2+api.MaxEntities)...), 50)
	}
	if e := r.Remove(20); e != api.OK {
		t.Error(e)
	}
	if id, e := r.Insert(full(0, 1)); id != 50 || e != api.OK {
		t.Error(id, e)
	}
	if id, e := r.Insert(full(0, 1)); id != 0 || e != api.ErrFull {
		t.Error(id, e)
	}
	if l := r.List(); len(l) != api.MaxEntities || l[len(l)-1].ID != 50 {
		t.Error(idsOf(l))
	}
}

func TestInsertAtTheEndOfTheIDs(t *testing.T) {
	r := mustFrom(t, rows(4), top-1)
	if id, e := r.Insert(full(0, 2)); id != top-1 || e != api.OK {
		t.Error(id, e)
	}
	want := []api.Entity{full(4, 1), full(top-1, 2)}
	for range 2 {
		if id, e := r.Insert(full(0, 3)); id != 0 || e != api.ErrFull {
			t.Error(id, e)
		}
		holds(t, r, want, top)
	}
	r.Remove(top - 1)
	r.Remove(4)
	if id, e := r.Insert(full(0, 3)); id != 0 || e != api.ErrFull {
		t.Error(id, e)
	}
	holds(t, r, nil, top)
}

func TestWhatIsNotThere(t *testing.T) {
	r := mustFrom(t, rows(2, 3, 7), 9)
	for _, id := range []int{1, 4, 6, 8, 9, 10, 0, -1, -2, top, math.MinInt, math.MaxInt} {
		if got, e := r.Get(id); got != (api.Entity{}) || e != api.ErrNone {
			t.Errorf("Get(%d): %v, %d", id, got, e)
		}
		if e := r.Set(full(id, 5)); e != api.ErrNone {
			t.Errorf("Set(%d): %d", id, e)
		}
		if e := r.Remove(id); e != api.ErrNone {
			t.Errorf("Remove(%d): %d", id, e)
		}
		holds(t, r, rows(2, 3, 7), 9)
	}
	// The room that is not used holds entities without an ID: they are not there.
	if _, e := New().Get(0); e != api.ErrNone {
		t.Error(e)
	}
}

func TestSetChangesJustItsOwn(t *testing.T) {
	ids := []int{2, 3, 7}
	for i, id := range ids {
		r := mustFrom(t, rows(ids...), 9)
		if e := r.Set(full(id, 20)); e != api.OK {
			t.Error(e)
		}
		want := rows(ids...)
		want[i] = full(id, 20)
		holds(t, r, want, 9)

		if e := r.Set(api.Entity{ID: id}); e != api.OK {
			t.Error(e)
		}
		want[i] = api.Entity{ID: id}
		holds(t, r, want, 9)
	}
}

func TestRemoveTakesOutJustItsOwn(t *testing.T) {
	for _, id := range count(1, api.MaxEntities) {
		all := rows(count(1, api.MaxEntities)...)
		r := mustFrom(t, all, 60)
		if e := r.Remove(id); e != api.OK {
			t.Error(e)
		}
		holds(t, r, slices.Delete(slices.Clone(all), id-1, id), 60)
		if got, e := r.Get(id); got != (api.Entity{}) || e != api.ErrNone {
			t.Errorf("Get(%d) behind Remove: %v, %d", id, got, e)
		}
		if e := r.Set(full(id, 3)); e != api.ErrNone {
			t.Errorf("Set(%d) behind Remove: %d", id, e)
		}
		if e := r.Remove(id); e != api.ErrNone {
			t.Errorf("Remove(%d) twice: %d", id, e)
		}
	}
}

func TestTheChaptersExample(t *testing.T) {
	r := New()
	r.Insert(full(0, 1))
	r.Insert(full(0, 2))
	if e := r.Remove(1); e != api.OK {
		t.Error(e)
	}
	if id, e := r.Insert(full(0, 3)); id != 3 || e != api.OK {
		t.Error(id, e)
	}
	if _, e := r.Get(1); e != api.ErrNone {
		t.Error(e)
	}
	holds(t, r, []api.Entity{full(2, 2), full(3, 3)}, 4)
}

// P6.3

func TestOfAnswersTheOwnersIDs(t *testing.T) {
	l := rows(1, 3, 4, 8, 9)
	for i, owner := range []int{1, 0, 1, -3, 1} {
		l[i].Owner = owner
	}
	r := mustFrom(t, l, 10)
	for owner, want := range map[int][]int{1: {1, 4, 9}, 0: {3}, -3: {8}, 2: nil, math.MinInt: nil, math.MaxInt: nil} {
		if got := r.Of(owner); !slices.Equal(got, want) {
			t.Errorf("Of(%d): %v, want %v", owner, got, want)
		}
	}
	r.Of(1)[0] = 77
	if got := r.Of(1); !slices.Equal(got, []int{1, 4, 9}) {
		t.Errorf("Of: %v behind a change of its answer", got)
	}
	if got := New().Of(0); len(got) != 0 {
		t.Errorf("Of(0) of none: %v", got)
	}
}

func TestAtAnswersTheLeastID(t *testing.T) {
	l := rows(2, 3, 5, 6)
	for i, c := range []api.Cell{at(1, 2), at(2, 1), at(1, 2), at(-4, 900)} {
		l[i].At = c
	}
	r := mustFrom(t, l, 7)
	for c, want := range map[api.Cell]int{at(1, 2): 2, at(2, 1): 3, at(-4, 900): 6} {
		if got, ok := r.At(c); got != l[slices.Index([]int{2, 3, 5, 6}, want)] || !ok {
			t.Errorf("At(%v): %v, %v", c, got, ok)
		}
	}
	for _, c := range []api.Cell{at(0, 0), at(1, 1), at(2, 2), at(1, 0), at(0, 2), at(-4, 901), at(-3, 900), l[0].Goal, at(math.MinInt, math.MaxInt)} {
		if got, ok := r.At(c); got != (api.Entity{}) || ok {
			t.Errorf("At(%v): %v, %v", c, got, ok)
		}
	}
	r.Remove(2)
	if got, ok := r.At(at(1, 2)); got != l[2] || !ok {
		t.Errorf("behind Remove: %v, %v", got, ok)
	}
	r.Remove(5)
	if got, ok := r.At(at(1, 2)); got != (api.Entity{}) || ok {
		t.Errorf("behind both: %v, %v", got, ok)
	}
	if _, ok := New().At(at(0, 0)); ok {
		t.Error("At(0, 0) of none")
	}
}

// P6.4

func TestAnIDIsNeverGivenTwice(t *testing.T) {
	r := New()
	var want []api.Entity
	next, seed := 1, uint32(5)
	for step := range 4000 {
		seed = seed*1664525 + 1013904223
		pick := int(seed >> 8)
		// Inserts outweigh the others, so that the table is full at times.
		switch seed >> 28 % 5 {
		case 0, 1, 2:
			id, e := r.Insert(full(pick%50, step))
			if len(want) == api.MaxEntities {
				if id != 0 || e != api.ErrFull {
					t.Fatal(step, id, e)
				}
				break
			}
			if id != next || e != api.OK {
				t.Fatal(step, id, e, next)
			}
			want = append(want, full(next, step))
			next++
		case 3:
			for range 2 {
				if len(want) > 0 {
					i := pick % len(want)
					if e := r.Remove(want[i].ID); e != api.OK {
						t.Fatal(step, e)
					}
					want = slices.Delete(want, i, i+1)
				}
			}
		case 4:
			if len(want) > 0 {
				i := pick % len(want)
				want[i] = full(want[i].ID, step)
				if e := r.Set(want[i]); e != api.OK {
					t.Fatal(step, e)
				}
			}
		}
		if step%50 == 0 {
			holds(t, r, want, next)
		}
	}
	holds(t, r, want, next)
}

func TestTheLastIDIsNotGivenAgain(t *testing.T) {
	r := New()
	for i := 1; i <= 100; i++ {
		if id, e := r.Insert(full(1, i)); id != i || e != api.OK {
			t.Fatal(id, e)
		}
		if e := r.Remove(i); e != api.OK {
			t.Fatal(e)
		}
	}
	holds(t, r, nil, 101)
}

func TestTheNilTable(t *testing.T) {
	var r *Table
	for range 2 {
		if id, e := r.Insert(full(1, 1)); id != 0 || e != api.ErrState {
			t.Error(id, e)
		}
		for _, id := range []int{0, 1, -1, top} {
			if got, e := r.Get(id); got != (api.Entity{}) || e != api.ErrNone {
				t.Error(got, e)
			}
			if e := r.Set(full(id, 1)); e != api.ErrNone {
				t.Error(e)
			}
			if e := r.Remove(id); e != api.ErrNone {
				t.Error(e)
			}
		}
		holds(t, r, nil, 0)
	}
}

func TestTheZeroTableIsAsNews(t *testing.T) {
	var zero Table
	holds(t, &zero, nil, 1)
	for _, id := range []int{0, 1} {
		if got, e := zero.Get(id); got != (api.Entity{}) || e != api.ErrNone {
			t.Error(got, e)
		}
		if e := zero.Set(full(id, 1)); e != api.ErrNone {
			t.Error(e)
		}
		if e := zero.Remove(id); e != api.ErrNone {
			t.Error(e)
		}
	}
	for i := 1; i <= 3; i++ {
		if id, e := zero.Insert(full(9, i)); id != i || e != api.OK {
			t.Error(id, e)
		}
	}
	holds(t, &zero, rows(1, 2, 3), 4)
}

func TestTablesDoNotHangOnOneAnother(t *testing.T) {
	l := rows(1, 2, 3)
	a, b := mustFrom(t, l, 4), mustFrom(t, l, 4)
	c := *a
	a.Remove(2)
	a.Insert(full(0, 9))
	b.Set(full(1, 8))
	c.Remove(3)
	holds(t, a, []api.Entity{l[0], l[2], full(4, 9)}, 5)
	holds(t, b, []api.Entity{full(1, 8), l[1], l[2]}, 4)
	holds(t, &c, []api.Entity{l[0], l[1]}, 4)
}
