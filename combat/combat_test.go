package combat

import (
	"math"
	"math/big"
	"slices"
	"testing"

	"skirmish/api"
)

const most = 1000000

var ends = []int{
	math.MinInt, math.MinInt + 1, math.MinInt32, -most - 1, -most, -3, -2, -1, 0, 1, 2, 3, 4, 5, 6, 7, 999, most/2 - 1, most / 2, most - 1, most,
	most + 1, most + 2, 2 * most, math.MaxInt32, 1<<32 + 1, 1<<32 + 2, math.MaxInt - 1, math.MaxInt,
}

// power is the damage and the reach of the chapter's kinds.
var power = map[int][2]int{1: {4, 3}, 2: {1, 1}, 3: {6, 2}, 4: {2, 1}}

// noKinds are numbers that are none of the kinds, such as are one in fewer bits among them.
var noKinds = []int{0, -1, -2, -3, 5, 6, 7, 256, 257, 258, 259, 1<<16 + 3, 1<<32 + 1, 1<<32 + 3, math.MaxInt, math.MinInt, math.MinInt + 3}

// dice makes numbers that follow from their first one.
type dice uint32

func (d *dice) below(n int) int {
	*d = *d*1664525 + 1013904223
	return int(*d>>8) % n
}

// field answers an open map.
func field(w, h int) api.Map {
	return api.Map{W: w, H: h, Tiles: make([]int, w*h), Ore: make([]int, w*h)}
}

// rocky answers m with Rock at these cells too.
func rocky(m api.Map, at ...api.Cell) api.Map {
	m.Tiles = slices.Clone(m.Tiles)
	for _, c := range at {
		m.Tiles[c.Y*m.W+c.X] = api.Rock
	}
	return m
}

func one(id, owner, kind, x, y int) api.Entity {
	return api.Entity{ID: id, Owner: owner, Kind: kind, At: api.Cell{X: x, Y: y}, HP: 100}
}

// with answers e with another HP.
func with(e api.Entity, hp int) api.Entity {
	e.HP = hp
	return e
}

func isBlow(t *testing.T, damage, reach, distance, want int) {
	t.Helper()
	if n := Blow(damage, reach, distance); n != want {
		t.Errorf("Blow(%d, %d, %d) = %d, want %d", damage, reach, distance, n, want)
	}
}

func isStrike(t *testing.T, m api.Map, a, b api.Entity, want int) {
	t.Helper()
	if n := Strike(m, a, b); n != want {
		t.Errorf("Strike(%v, %v) = %d, want %d", a, b, n, want)
	}
}

func isPick(t *testing.T, m api.Map, l []api.Entity, id, want int, ok bool) {
	t.Helper()
	if n, there := Pick(m, l, id); n != want || there != ok {
		t.Errorf("Pick(%v, %d) = %d, %v, want %d, %v", l, id, n, there, want, ok)
	}
}

func isFight(t *testing.T, m api.Map, l []api.Entity, acts []Act, want []api.Entity, wantDead ...int) {
	t.Helper()
	if left, dead := Fight(m, l, acts); !slices.Equal(left, want) || !slices.Equal(dead, wantDead) {
		t.Errorf("Fight(%v, %v): %v, %v, want %v, %v", l, acts, left, dead, want, wantDead)
	}
}

// The examples

func TestExamples(t *testing.T) {
	isBlow(t, 6, 2, 1, 6)
	isBlow(t, 6, 2, 2, 4)
	isBlow(t, 6, 2, 3, 0)
	isBlow(t, 1, 3, 3, 1)
}

// P12.1

func TestBlow(t *testing.T) {
	for _, k := range [][4]int{
		{4, 3, 0, 4}, {4, 3, 1, 4}, {4, 3, 2, 3}, {4, 3, 3, 2}, {4, 3, 4, 0}, {6, 2, 0, 6}, {1, 1, 0, 1}, {1, 1, 1, 1}, {1, 1, 2, 0}, {2, 1, 1, 2}, {2, 2, 2, 1},
		// What is lost is rounded down, so that what is left is rounded up ahead of its product.
		{6, 3, 2, 5}, {6, 3, 3, 4}, {3, 3, 2, 2}, {3, 3, 3, 2}, {7, 7, 7, 4}, {14, 7, 2, 13}, {14, 7, 7, 8},
		// At least 1, but out of reach.
		{1, 10, 10, 1}, {1, most, most, 1}, {1, most, most + 1, 0}, {1, 10, 11, 0},
		{most, 1, 1, most}, {most, most, 0, most}, {most, most, 1, most}, {most, 2, 2, 750000}, {most, most, 2, 999999}, {1000, 1000, 1000, 500},
	} {
		isBlow(t, k[0], k[1], k[2], k[3])
	}
}

func TestBlowOfTooMuchOrTooLittle(t *testing.T) {
	for _, damage := range ends {
		for _, reach := range ends {
			for _, distance := range ends {
				strikes := 1 <= damage && damage <= most && 1 <= reach && reach <= most && 0 <= distance && distance <= reach
				if n := Blow(damage, reach, distance); (n > 0) != strikes || n < 0 || n > max(damage, 0) {
					t.Fatal(damage, reach, distance, n)
				}
			}
		}
	}
	isBlow(t, most, most, most, 500000) // 999999 of 2000000 parts are lost
	isBlow(t, most+1, 1, 1, 0)
	isBlow(t, 1, most+1, 1, 0)
	isBlow(t, 0, 2, 1, 0)
	isBlow(t, 6, 0, 0, 0)
	isBlow(t, 6, 2, -1, 0)
}

// reckoned answers a blow by numbers of any size, of a damage and a reach that are no less than 1.
func reckoned(damage, reach, distance int) int {
	if distance > reach || distance < 0 {
		return 0
	}
	if distance == 0 {
		distance = 1
	}
	whole := new(big.Int).Lsh(big.NewInt(1), 32)
	lost := new(big.Int).Mul(big.NewInt(int64(distance-1)), whole)
	lost.Div(lost, big.NewInt(int64(2*reach)))
	blow := new(big.Int).Sub(whole, lost)
	blow.Mul(blow, big.NewInt(int64(damage)))
	blow.Div(blow, whole)
	if blow.Sign() == 0 {
		return 1
	}
	return int(blow.Int64())
}

func TestBlowAgainstReckoning(t *testing.T) {
	for damage := 1; damage <= 40; damage++ {
		for reach := 1; reach <= 40; reach++ {
			for distance := -2; distance <= 44; distance++ {
				isBlow(t, damage, reach, distance, reckoned(damage, reach, distance))
			}
		}
	}
	d := dice(1)
	for range 20000 {
		damage, reach := 1+d.below(most), 1+d.below(most)
		if d.below(2) == 0 {
			reach = 1 + d.below(1000)
		}
		distance := d.below(reach + 2)
		isBlow(t, damage, reach, distance, reckoned(damage, reach, distance))
	}
}

// P12.2

func TestStrikeOfEachKind(t *testing.T) {
	m := field(20, 20)
	for kind, p := range power {
		a := one(1, 0, kind, 8, 9)
		for y := range 20 {
			for x := range 20 {
				b := one(2, 1, api.Worker, x, y)
				distance := max(x, 8) - min(x, 8) + max(y, 9) - min(y, 9)
				isStrike(t, m, a, b, reckoned(p[0], p[1], distance))
			}
		}
	}
	isStrike(t, m, one(1, 0, api.Soldier, 4, 4), one(2, 1, api.Scout, 5, 5), 4)
	isStrike(t, m, one(1, 0, api.Base, 4, 4), one(2, 1, api.Scout, 4, 7), 2)
	isStrike(t, m, one(1, 0, api.Base, 4, 4), one(2, 1, api.Scout, 4, 4), 4)
}

func TestStrikeOfTheirOwn(t *testing.T) {
	m := field(4, 4)
	for _, owner := range []int{0, 1, 3, -1, math.MinInt, math.MaxInt} {
		for kind := range power {
			isStrike(t, m, one(1, owner, kind, 1, 1), one(2, owner, api.Worker, 1, 2), 0)
			isStrike(t, m, one(1, owner, kind, 1, 1), one(1, owner, kind, 1, 1), 0)
		}
	}
	// Owners are asked for nothing but being unlike, and IDs for nothing.
	isStrike(t, m, one(1, math.MinInt, api.Soldier, 1, 1), one(1, math.MaxInt, api.Worker, 1, 2), 6)
	isStrike(t, m, one(7, -1, api.Soldier, 1, 1), one(7, 0, api.Worker, 1, 2), 6)
	isStrike(t, m, one(7, 1, api.Soldier, 1, 1), one(7, 1<<32+1, api.Worker, 1, 2), 6)
}

func TestStrikeOfNoKind(t *testing.T) {
	m := field(4, 4)
	for _, kind := range noKinds {
		isStrike(t, m, one(1, 0, kind, 1, 1), one(2, 1, api.Worker, 1, 2), 0)
		// Of what kind the other is isn't asked.
		isStrike(t, m, one(1, 0, api.Soldier, 1, 1), one(2, 1, kind, 1, 2), 6)
	}
}

func TestStrikeAsksNoHP(t *testing.T) {
	m := field(4, 4)
	for _, hp := range ends {
		isStrike(t, m, with(one(1, 0, api.Soldier, 1, 1), hp), one(2, 1, api.Worker, 1, 2), 6)
		isStrike(t, m, one(1, 0, api.Soldier, 1, 1), with(one(2, 1, api.Worker, 1, 2), hp), 6)
	}
}

func TestStrikePastRock(t *testing.T) {
	m := rocky(field(5, 5), api.Cell{X: 2, Y: 2})
	base := one(1, 0, api.Base, 1, 2)
	isStrike(t, m, base, one(2, 1, api.Worker, 3, 2), 0)
	isStrike(t, m, base, one(2, 1, api.Worker, 4, 2), 0)
	isStrike(t, m, base, one(2, 1, api.Worker, 1, 4), 3)
	isStrike(t, m, one(1, 0, api.Soldier, 2, 1), one(2, 1, api.Worker, 2, 3), 0)
	isStrike(t, field(5, 5), one(1, 0, api.Soldier, 2, 1), one(2, 1, api.Worker, 2, 3), 4)
	// The line's ends may be Rock.
	isStrike(t, m, base, one(2, 1, api.Worker, 2, 2), 4)
	isStrike(t, m, one(1, 0, api.Base, 2, 2), one(2, 1, api.Worker, 4, 2), 3)
	// Ore is in nobody's way.
	m.Tiles[2*5+2] = api.Ore
	m.Ore[2*5+2] = 7
	isStrike(t, m, base, one(2, 1, api.Worker, 3, 2), 3)
}

func TestStrikeOutsideOfTheMap(t *testing.T) {
	m := field(4, 6)
	a := one(1, 0, api.Soldier, 3, 3)
	b := one(2, 1, api.Soldier, 4, 3)
	isStrike(t, m, a, b, 0)
	isStrike(t, m, b, a, 0)
	isStrike(t, m, one(1, 0, api.Soldier, 0, 0), one(2, 1, api.Worker, 0, -1), 0)
	isStrike(t, m, one(1, 0, api.Soldier, -1, 0), one(2, 1, api.Worker, -1, 0), 0)
	isStrike(t, m, one(1, 0, api.Soldier, 0, 5), one(2, 1, api.Worker, 0, 6), 0)
	isStrike(t, m, one(1, 0, api.Soldier, math.MaxInt, 0), one(2, 1, api.Worker, math.MinInt, 0), 0)
}

// malformed answers maps that aren't formed.
func malformed() []api.Map {
	short, odd, both := field(4, 4), field(4, 4), field(4, 4)
	short.Tiles = short.Tiles[1:]
	odd.Tiles[15] = 3
	both.Ore[0] = 1
	return []api.Map{{}, field(3, 4), field(4, 3), field(21, 4), short, odd, both, {W: math.MaxInt, H: math.MaxInt}, {W: math.MinInt, H: 4}}
}

func TestOnNoMap(t *testing.T) {
	for _, m := range malformed() {
		a, b := one(1, 0, api.Soldier, 1, 1), with(one(2, 1, api.Worker, 1, 2), 1)
		l := []api.Entity{a, b}
		isStrike(t, m, a, b, 0)
		isPick(t, m, l, 1, 0, false)
		isFight(t, m, l, []Act{{1, 2}, {2, 1}}, l)
	}
}

func TestPick(t *testing.T) {
	m := field(8, 8)
	base := one(4, 0, api.Base, 3, 3)
	near, also, off, out := one(9, 1, api.Worker, 3, 4), one(7, 2, api.Scout, 2, 3), one(2, 1, api.Base, 3, 5), one(1, 1, api.Worker, 3, 7)
	own := one(3, 0, api.Worker, 4, 3)
	isPick(t, m, []api.Entity{base, near, off}, 4, 9, true)
	isPick(t, m, []api.Entity{off, near, base}, 4, 9, true)
	isPick(t, m, []api.Entity{base, near, also, off}, 4, 7, true)
	isPick(t, m, []api.Entity{also, near, off, base}, 4, 7, true)
	isPick(t, m, []api.Entity{base, off, out, own}, 4, 2, true)
	isPick(t, m, []api.Entity{base, out, own}, 4, 0, false)
	isPick(t, m, []api.Entity{base}, 4, 0, false)
	isPick(t, m, nil, 4, 0, false)
	isPick(t, m, nil, 0, 0, false)
	// Who isn't there picks nobody.
	isPick(t, m, []api.Entity{base, near, also}, 5, 0, false)
	isPick(t, m, []api.Entity{base, near, also}, 0, 0, false)
	isPick(t, m, []api.Entity{base, near, also}, 1<<32+4, 0, false)
	// The other way round.
	isPick(t, m, []api.Entity{base, near, also, off}, 9, 4, true)
	isPick(t, m, []api.Entity{base, near, also, off}, 2, 4, true)
	isPick(t, m, []api.Entity{base, near, off}, 2, 4, true)
	isPick(t, m, []api.Entity{base, near, off}, 9, 4, true)
	isPick(t, m, []api.Entity{base, out, off}, 1, 0, false)
}

func TestPickOfNumbersAtTheEnds(t *testing.T) {
	m := field(4, 4)
	at := one(math.MaxInt, 0, api.Soldier, 1, 1)
	l := []api.Entity{at, one(0, 1, api.Worker, 1, 2), one(-1, 1, api.Worker, 2, 1), one(math.MinInt, 2, api.Worker, 0, 1), one(math.MaxInt-1, 1, api.Worker, 1, 0)}
	isPick(t, m, l, math.MaxInt, math.MinInt, true)
	isPick(t, m, l[:3], math.MaxInt, -1, true)
	isPick(t, m, l[:2], math.MaxInt, 0, true) // one whose ID is 0 may be picked, too
	isPick(t, m, []api.Entity{at, l[4]}, math.MaxInt, math.MaxInt-1, true)
	isPick(t, m, []api.Entity{one(1, 0, api.Worker, 0, 0), with(one(0, 1, api.Worker, 1, 0), -4)}, 1, 0, true)
}

func TestPickOfThoseWhoStandTwice(t *testing.T) {
	m := field(8, 8)
	// The first of the ID picks, whoever has it too.
	l := []api.Entity{one(5, 0, api.Soldier, 0, 0), one(5, 0, api.Soldier, 6, 6), one(8, 1, api.Worker, 6, 7), one(9, 1, api.Worker, 1, 0)}
	isPick(t, m, l, 5, 9, true)
	isPick(t, m, l[1:], 5, 8, true)
	isPick(t, m, l[:3], 5, 0, false)
	// Who stands there twice can be struck by who they are.
	l = []api.Entity{one(5, 0, api.Soldier, 0, 0), one(5, 1, api.Worker, 0, 1)}
	isPick(t, m, l, 5, 5, true)
	l = []api.Entity{one(5, 0, api.Soldier, 0, 0), one(8, 0, api.Worker, 0, 1), one(7, 1, api.Worker, 1, 1), one(8, 1, api.Worker, 1, 0)}
	isPick(t, m, l, 5, 8, true)
}

// crowd answers n entities of three owners on an 8 by 8 map, some of them with one ID, or no kind, or outside, and that map.
func crowd(d *dice, n int) (api.Map, []api.Entity) {
	m := field(8, 8)
	for range 6 {
		m.Tiles[d.below(64)] = api.Rock
	}
	var l []api.Entity
	for range n {
		e := api.Entity{ID: d.below(2*n) - 2, Owner: d.below(3), Kind: d.below(4) + 1, At: api.Cell{X: d.below(8), Y: d.below(8)}, HP: d.below(14) - 1, Target: d.below(99), Load: d.below(9)}
		if d.below(9) == 0 {
			e.Kind = d.below(3) * 5
		}
		if d.below(20) == 0 {
			e.At.X = 8
		}
		l = append(l, e)
	}
	return m, l
}

func TestPickAgainstReckoning(t *testing.T) {
	d := dice(2)
	for range 400 {
		n := 1 + d.below(30)
		m, l := crowd(&d, n)
		for id := -3; id <= 2*n; id++ {
			first := slices.IndexFunc(l, func(e api.Entity) bool { return e.ID == id })
			var who [][2]int // distance and ID
			for _, e := range l {
				if first >= 0 && Strike(m, l[first], e) > 0 {
					a, b := l[first].At, e.At
					who = append(who, [2]int{max(a.X-b.X, b.X-a.X) + max(a.Y-b.Y, b.Y-a.Y), e.ID})
				}
			}
			slices.SortFunc(who, func(a, b [2]int) int { return slices.Compare(a[:], b[:]) })
			if len(who) == 0 {
				isPick(t, m, l, id, 0, false)
			} else {
				isPick(t, m, l, id, who[0][1], true)
			}
		}
	}
}

// P12.3

func TestFight(t *testing.T) {
	m := field(6, 6)
	a, b, c := with(one(1, 0, api.Soldier, 1, 1), 6), with(one(2, 1, api.Soldier, 2, 1), 6), with(one(3, 1, api.Worker, 1, 2), 9)
	l := []api.Entity{a, b, c}
	isFight(t, m, l, []Act{{1, 2}}, []api.Entity{a, c}, 2)
	isFight(t, m, l, []Act{{1, 3}}, []api.Entity{a, b, with(c, 3)})
	isFight(t, m, l, []Act{{3, 1}}, []api.Entity{with(a, 5), b, c})
	isFight(t, m, l, []Act{{2, 1}, {3, 1}}, []api.Entity{b, c}, 1)
	// Who is dead has struck, too.
	isFight(t, m, l, []Act{{1, 2}, {2, 1}}, []api.Entity{c}, 1, 2)
	isFight(t, m, l, []Act{{1, 2}, {2, 1}, {3, 1}}, []api.Entity{c}, 1, 2)
	// The dead are in the order of l, whoever died first.
	isFight(t, m, []api.Entity{b, c, a}, []Act{{1, 2}, {2, 1}}, []api.Entity{c}, 2, 1)
	// Who gets two blows.
	two := []api.Entity{a, with(one(6, 0, api.Soldier, 3, 2), 6), with(c, 10), with(b, 10)}
	isFight(t, m, two, []Act{{1, 2}, {6, 2}}, []api.Entity{two[0], two[1], two[2]}, 2)
	isFight(t, m, two, []Act{{1, 3}, {6, 3}}, []api.Entity{two[0], two[1], two[3]}, 3)
	isFight(t, m, []api.Entity{a, two[1], with(c, 11)}, []Act{{1, 3}, {6, 3}}, []api.Entity{a, two[1], with(c, 1)})
}

func TestFightOfNobodyAndNothing(t *testing.T) {
	m := field(4, 4)
	isFight(t, m, nil, nil, nil)
	isFight(t, m, []api.Entity{}, []Act{}, nil)
	isFight(t, m, nil, []Act{{1, 2}, {0, 0}}, nil)
	l := []api.Entity{one(1, 0, api.Soldier, 1, 1), one(2, 1, api.Worker, 1, 2)}
	isFight(t, m, l, nil, l)
}

func TestFightOfThoseWhoAreDeadAlready(t *testing.T) {
	m := field(4, 4)
	l := []api.Entity{with(one(5, 0, api.Soldier, 1, 1), 0), with(one(2, 1, api.Worker, 1, 2), 7), with(one(9, 1, api.Worker, 0, 1), -3), with(one(1, 0, api.Worker, 3, 3), 1), with(one(0, 0, api.Worker, 3, 3), math.MinInt)}
	isFight(t, m, l, nil, []api.Entity{l[1], l[3]}, 5, 9, 0)
	// They still strike.
	isFight(t, m, l, []Act{{5, 2}}, []api.Entity{with(l[1], 1), l[3]}, 5, 9, 0)
	isFight(t, m, l, []Act{{9, 5}, {5, 9}}, []api.Entity{l[1], l[3]}, 5, 9, 0)
}

func TestFightCountsTheFirstActAlone(t *testing.T) {
	m := field(6, 6)
	a, b, c := one(1, 0, api.Soldier, 1, 1), one(2, 1, api.Soldier, 2, 1), one(3, 1, api.Worker, 1, 2)
	far := one(4, 1, api.Worker, 5, 5)
	own := one(6, 0, api.Worker, 0, 1)
	l := []api.Entity{a, b, c, far, own}
	hit := []api.Entity{a, with(b, 94), c, far, own}
	isFight(t, m, l, []Act{{1, 2}, {1, 3}}, hit)
	isFight(t, m, l, []Act{{1, 2}, {1, 2}, {1, 2}}, hit)
	isFight(t, m, l, []Act{{1, 2}, {3, 9}, {1, 3}}, hit)
	// The first one counts though it takes nothing.
	isFight(t, m, l, []Act{{1, 4}, {1, 2}}, l)
	isFight(t, m, l, []Act{{1, 6}, {1, 2}}, l)
	isFight(t, m, l, []Act{{1, 1}, {1, 2}}, l)
	isFight(t, m, l, []Act{{1, 9}, {1, 2}}, l)
	// Of each striker.
	isFight(t, m, l, []Act{{1, 2}, {2, 1}, {1, 3}, {2, 6}, {3, 1}, {3, 6}}, []api.Entity{with(a, 93), with(b, 94), c, far, own})
}

func TestFightOfThoseWhoAreNotThere(t *testing.T) {
	m := field(4, 4)
	l := []api.Entity{one(1, 0, api.Soldier, 1, 1), one(2, 1, api.Worker, 1, 2)}
	for _, id := range []int{0, 3, -1, -2, 1<<32 + 1, 1<<32 + 2, math.MinInt, math.MaxInt} {
		isFight(t, m, l, []Act{{1, id}}, l)
		isFight(t, m, l, []Act{{id, 1}, {id, 2}}, l)
		isFight(t, m, l, []Act{{id, id}, {2, 1}}, []api.Entity{with(l[0], 99), l[1]})
	}
}

func TestFightOfThoseWhoStandTwice(t *testing.T) {
	m := field(8, 8)
	a, b, c := one(5, 0, api.Soldier, 1, 1), one(5, 1, api.Soldier, 6, 6), one(8, 1, api.Worker, 1, 2)
	again := one(8, 0, api.Worker, 6, 7)
	l := []api.Entity{a, b, c, again}
	// The first of an ID strikes, and is struck.
	isFight(t, m, l, []Act{{5, 8}}, []api.Entity{a, b, with(c, 94), again})
	isFight(t, m, l, []Act{{5, 8}, {5, 8}}, []api.Entity{a, b, with(c, 94), again})
	isFight(t, m, l, []Act{{8, 5}}, []api.Entity{with(a, 99), b, c, again})
	isFight(t, m, []api.Entity{b, a, again, c}, []Act{{5, 8}, {8, 5}}, []api.Entity{with(b, 99), a, with(again, 94), c})
	isFight(t, m, []api.Entity{a, b, again, c}, []Act{{5, 8}, {8, 5}}, []api.Entity{a, b, again, c})
	// Each of them may be dead.
	isFight(t, m, []api.Entity{a, b, with(c, 6), again}, []Act{{5, 8}}, []api.Entity{a, b, again}, 8)
	isFight(t, m, []api.Entity{a, b, c, with(again, 0)}, []Act{{5, 8}}, []api.Entity{a, b, with(c, 94)}, 8)
	isFight(t, m, []api.Entity{a, with(c, 1), with(b, -1), with(c, 0), with(c, 1)}, []Act{{5, 8}}, []api.Entity{a, with(c, 1)}, 8, 5, 8)
}

func TestFightHoldsHP(t *testing.T) {
	m := field(4, 4)
	for strikers := range 5 {
		l := []api.Entity{one(9, 1, api.Worker, 1, 1)}
		var acts []Act
		for i := range strikers {
			l = append(l, one(i, 0, api.Soldier, []int{1, 0, 2, 1}[i], []int{0, 1, 1, 2}[i]))
			acts = append(acts, Act{i, 9})
		}
		for less := range 30 {
			l[0].HP = math.MinInt + less
			isFight(t, m, l, acts, l[1:], 9)
			l[0].HP = math.MaxInt - less
			isFight(t, m, l, acts, append([]api.Entity{with(l[0], math.MaxInt-less-6*strikers)}, l[1:]...))
			l[0].HP = less
			if less <= 6*strikers {
				isFight(t, m, l, acts, l[1:], 9)
			} else {
				isFight(t, m, l, acts, append([]api.Entity{with(l[0], less-6*strikers)}, l[1:]...))
			}
		}
	}
}

func TestLessIsHeld(t *testing.T) {
	for strike := range 7 {
		for above := range 10 {
			if n := less(math.MinInt+above, strike); n != math.MinInt+max(above-strike, 0) {
				t.Error(above, strike, n)
			}
		}
		if n := less(3, strike); n != 3-strike {
			t.Error(strike, n)
		}
	}
}

// fought answers a fight by asking of each one which acts take from it.
func fought(m api.Map, l []api.Entity, acts []Act) ([]api.Entity, []int) {
	first := func(id int) int {
		return slices.IndexFunc(l, func(e api.Entity) bool { return e.ID == id })
	}
	var left []api.Entity
	var dead []int
	for place, e := range l {
		for i, act := range acts {
			again := slices.ContainsFunc(acts[:i], func(a Act) bool { return a.From == act.From })
			if !again && first(act.From) >= 0 && first(act.To) == place {
				e.HP -= Strike(m, l[first(act.From)], l[place])
			}
		}
		if e.HP > 0 {
			left = append(left, e)
		} else {
			dead = append(dead, e.ID)
		}
	}
	return left, dead
}

// quarrel answers acts of those of a crowd of n, and of some who aren't there.
func quarrel(d *dice, m api.Map, l []api.Entity) []Act {
	var acts []Act
	for range d.below(2*len(l) + 2) {
		act := Act{d.below(2*len(l)+2) - 3, d.below(2*len(l)+2) - 3}
		if d.below(4) > 0 {
			act.From = l[d.below(len(l))].ID
			act.To = l[d.below(len(l))].ID
		}
		if to, ok := Pick(m, l, act.From); ok && d.below(3) > 0 {
			act.To = to
		}
		acts = append(acts, act)
	}
	return acts
}

func TestFightAgainstReckoning(t *testing.T) {
	d := dice(3)
	deaths := 0
	for range 3000 {
		m, l := crowd(&d, 1+d.below(25))
		acts := quarrel(&d, m, l)
		want, dead := fought(m, l, acts)
		deaths += len(dead)
		isFight(t, m, l, acts, want, dead...)
	}
	if deaths == 0 {
		t.Error("nobody died")
	}
}

func TestFightOfMany(t *testing.T) {
	m := field(20, 20)
	var l, want []api.Entity
	var acts []Act
	const n = 20000
	for i := range n {
		l = append(l, one(i, i%2, api.Soldier, i%20, i/20%20))
		acts = append(acts, Act{i, i ^ 1}, Act{i, i ^ 1})
		want = append(want, with(l[i], 94))
	}
	isFight(t, m, l, acts, want)
}

// P12.4: what follows

func TestTheOrderOfActsDoesNotMatter(t *testing.T) {
	d := dice(4)
	for range 500 {
		m, l := crowd(&d, 1+d.below(25))
		var acts []Act
		for _, act := range quarrel(&d, m, l) {
			if !slices.ContainsFunc(acts, func(a Act) bool { return a.From == act.From }) {
				acts = append(acts, act)
			}
		}
		left, dead := Fight(m, l, acts)
		for range 4 {
			for i := range acts {
				k := d.below(i + 1)
				acts[i], acts[k] = acts[k], acts[i]
			}
			isFight(t, m, l, acts, left, dead...)
		}
	}
}

func TestNobodyStrikesTheirOwnAndNoHPGrows(t *testing.T) {
	d := dice(5)
	for range 500 {
		m, l := crowd(&d, 1+d.below(25))
		for _, a := range l {
			for _, b := range l {
				if n := Strike(m, a, b); n < 0 || n > 0 && a.Owner == b.Owner {
					t.Fatal(a, b, n)
				}
			}
		}
		acts := quarrel(&d, m, l)
		left, dead := Fight(m, l, acts)
		if len(left)+len(dead) != len(l) {
			t.Fatal(l, left, dead)
		}
		k := 0
		for _, e := range l {
			// Nothing but HP is another than it was.
			if k < len(left) && left[k] == with(e, left[k].HP) && left[k].HP <= e.HP {
				k++
			}
		}
		if k != len(left) {
			t.Fatal(l, left)
		}
		for i := range l {
			l[i].Owner = 1
		}
		alive, _ := Fight(m, l, nil)
		left, _ = Fight(m, l, acts)
		if !slices.Equal(left, alive) {
			t.Fatal(l, left)
		}
	}
}

// Rule 5

func TestArgumentsAreLeftAlone(t *testing.T) {
	d := dice(6)
	for range 100 {
		m, l := crowd(&d, 1+d.below(25))
		acts := quarrel(&d, m, l)
		l, acts = slices.Grow(l, 40), slices.Grow(acts, 40)
		allWas, actsWas := slices.Clone(l[:cap(l)]), slices.Clone(acts[:cap(acts)])
		tiles, ore := slices.Clone(m.Tiles), slices.Clone(m.Ore)
		for id := range 20 {
			Pick(m, l, id)
		}
		left, dead := Fight(m, l, acts)
		left, dead = left[:cap(left)], dead[:cap(dead)]
		for i := range left {
			left[i] = one(-77, -77, -77, -77, -77)
		}
		for i := range dead {
			dead[i] = -77
		}
		if !slices.Equal(l[:cap(l)], allWas) || !slices.Equal(acts[:cap(acts)], actsWas) || !slices.Equal(m.Tiles, tiles) || !slices.Equal(m.Ore, ore) {
			t.Fatal("an argument was changed")
		}
	}
}

func TestAnswersAreNewMemory(t *testing.T) {
	m := field(4, 4)
	l := []api.Entity{one(1, 0, api.Soldier, 1, 1), with(one(2, 1, api.Worker, 1, 2), 1)}
	for _, acts := range [][]Act{nil, {{1, 2}}} {
		left, dead := Fight(m, l, acts)
		other, gone := Fight(m, l, acts)
		left[0].HP = -1
		for i := range dead {
			dead[i] = -1
		}
		if l[0].HP != 100 || other[0].HP != 100 || slices.Contains(gone, -1) {
			t.Error(acts, l, other, gone)
		}
	}
}
