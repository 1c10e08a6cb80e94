package econ

import (
	"math"
	"slices"
	"testing"

	"skirmish/api"
)

// kinds are the chapter's numbers.
var kinds = map[int]Stats{
	1: {0, 0, 60, 4, 3, 5},
	2: {20, 2, 10, 1, 1, 3},
	3: {40, 3, 25, 6, 2, 4},
	4: {30, 2, 12, 2, 1, 6},
}

// noKinds are numbers that are none of the kinds, such as are one in fewer bits among them.
var noKinds = []int{
	0, -1, -2, -3, -4, 5, 6, 7, 20, 127, 128, 255, 256, 257, 258, 259, 260, 1<<16 + 2, 1<<32 + 1, 1<<32 + 2, 1<<32 + 3, 1<<32 + 4,
	math.MaxInt32, math.MinInt32, math.MaxInt, math.MinInt, math.MinInt + 1, math.MinInt + 2, math.MinInt + 3, math.MinInt + 4,
}

var ends = []int{
	math.MinInt, math.MinInt + 1, math.MinInt + 10, math.MinInt32, -100001, -100000, -11, -10, -6, -5, -1, 0, 1, 4, 5, 6, 9, 10, 11,
	19, 20, 29, 30, 39, 40, 99989, 99990, 99991, 99999, 100000, 100001, 200000, math.MaxInt32, math.MaxInt - 10, math.MaxInt - 1, math.MaxInt,
}

func in(ore, left int, queue ...int) api.Player {
	return api.Player{Ore: ore, In: true, Queue: queue, Left: left}
}

func out(ore, left int, queue ...int) api.Player {
	return api.Player{Ore: ore, Queue: queue, Left: left}
}

func same(a, b api.Player) bool {
	return a.Ore == b.Ore && a.In == b.In && slices.Equal(a.Queue, b.Queue) && a.Left == b.Left
}

func isTrain(t *testing.T, p api.Player, kind int, want api.Player, errno api.Errno) {
	t.Helper()
	if got, e := Train(p, kind); !same(got, want) || e != errno {
		t.Errorf("Train(%v, %d): %v, %d, want %v, %d", p, kind, got, e, want, errno)
	}
}

func isWork(t *testing.T, p api.Player, want api.Player, kind int) {
	t.Helper()
	if got, k := Work(p); !same(got, want) || k != kind {
		t.Errorf("Work(%v): %v, %d, want %v, %d", p, got, k, want, kind)
	}
}

func isPop(t *testing.T, p api.Player, want api.Player, errno api.Errno) {
	t.Helper()
	if got, e := Pop(p); !same(got, want) || e != errno {
		t.Errorf("Pop(%v): %v, %d, want %v, %d", p, got, e, want, errno)
	}
}

func isDig(t *testing.T, load, ore, wantLoad, wantOre int) {
	t.Helper()
	if l, o := Dig(load, ore); l != wantLoad || o != wantOre {
		t.Errorf("Dig(%d, %d) = %d, %d, want %d, %d", load, ore, l, o, wantLoad, wantOre)
	}
}

func isEarn(t *testing.T, p api.Player, load int, want api.Player) {
	t.Helper()
	if got := Earn(p, load); !same(got, want) {
		t.Errorf("Earn(%v, %d): %v, want %v", p, load, got, want)
	}
}

// dice makes numbers that follow from their first one.
type dice uint32

func (d *dice) below(n int) int {
	*d = *d*1664525 + 1013904223
	return int(*d>>8) % n
}

// P11.1

func TestStat(t *testing.T) {
	for kind, want := range kinds {
		if s, e := Stat(kind); s != want || e != api.OK {
			t.Errorf("Stat(%d): %v, %d", kind, s, e)
		}
	}
	if s, e := Stat(api.Soldier); s != (Stats{Cost: 40, Turns: 3, HP: 25, Damage: 6, Reach: 2, Sight: 4}) || e != api.OK {
		t.Error(s, e)
	}
}

func TestStatOfNoKind(t *testing.T) {
	for _, kind := range noKinds {
		if s, e := Stat(kind); s != (Stats{}) || e != api.ErrNone {
			t.Errorf("Stat(%d): %v, %d", kind, s, e)
		}
	}
}

// The examples

func TestExamples(t *testing.T) {
	p := in(50, 0)
	isTrain(t, p, api.Worker, in(30, 2, api.Worker), api.OK)
	isWork(t, in(30, 2, api.Worker), in(30, 1, api.Worker), 0)
	isWork(t, in(30, 1, api.Worker), in(30, 0, api.Worker), api.Worker)
	isPop(t, in(30, 0, api.Worker), in(30, 0), api.OK)
	isDig(t, 8, 9, 10, 7)
	isDig(t, 0, 3, 3, 0)
}

// P11.2

func TestTrainIntoAnEmptyQueue(t *testing.T) {
	for _, left := range ends {
		isTrain(t, in(100, left), api.Worker, in(80, 2, api.Worker), api.OK)
		isTrain(t, in(100, left), api.Soldier, in(60, 3, api.Soldier), api.OK)
		isTrain(t, in(100, left), api.Scout, in(70, 2, api.Scout), api.OK)
	}
	p := in(50, 1)
	p.Queue = []int{}
	isTrain(t, p, api.Scout, in(20, 2, api.Scout), api.OK)
}

func TestTrainBehindOthers(t *testing.T) {
	for _, left := range ends {
		isTrain(t, in(100, left, api.Worker), api.Soldier, in(60, left, api.Worker, api.Soldier), api.OK)
		isTrain(t, in(100, left, api.Soldier), api.Worker, in(80, left, api.Soldier, api.Worker), api.OK)
		isTrain(t, in(100, left, api.Scout, api.Worker), api.Scout, in(70, left, api.Scout, api.Worker, api.Scout), api.OK)
		// Nothing is asked of those that are in the queue.
		isTrain(t, in(100, left, 0), api.Worker, in(80, left, 0, api.Worker), api.OK)
		isTrain(t, in(100, left, api.Base, -7), api.Worker, in(80, left, api.Base, -7, api.Worker), api.OK)
	}
}

func TestTrainAsksWhoIsIn(t *testing.T) {
	for _, kind := range []int{api.Worker, api.Soldier, api.Scout, api.Base, 0, 5, -1} {
		for _, p := range []api.Player{out(100, 0), out(0, 0), out(100, 2, 2), out(100, 1, 2, 3, 4), out(0, 1, 2, 3, 4), out(-1, 7, 2, 3, 4, 2)} {
			isTrain(t, p, kind, p, api.ErrState)
		}
	}
}

func TestTrainAsksTheKind(t *testing.T) {
	for _, kind := range append([]int{api.Base}, noKinds...) {
		for _, p := range []api.Player{in(100, 0), in(0, 0), in(100, 2, 2), in(100, 1, 2, 3, 4), in(0, 1, 2, 3, 4), in(-1, 7, 2, 3, 4, 2)} {
			isTrain(t, p, kind, p, api.ErrNone)
		}
	}
}

func TestTrainAsksForRoom(t *testing.T) {
	for _, kind := range []int{api.Worker, api.Soldier, api.Scout} {
		for _, ore := range []int{math.MinInt, -1, 0, 19, 20, 1000, math.MaxInt} {
			var queue []int
			for range 20 {
				queue = append(queue, api.Scout)
				if len(queue) >= api.MaxQueue {
					p := in(ore, 1, queue...)
					isTrain(t, p, kind, p, api.ErrFull)
				}
			}
		}
	}
	p := in(1000, 1, slices.Repeat([]int{9}, 1<<20)...)
	isTrain(t, p, api.Worker, p, api.ErrFull)
}

func TestTrainAsksForOre(t *testing.T) {
	for _, kind := range []int{api.Worker, api.Soldier, api.Scout} {
		s := kinds[kind]
		for _, ore := range ends {
			for _, queue := range [][]int{nil, {2}, {3, 4}} {
				p := in(ore, 3, queue...)
				if ore < s.Cost {
					isTrain(t, p, kind, p, api.ErrRange)
					continue
				}
				want := in(ore-s.Cost, 3, append(slices.Clone(queue), kind)...)
				if len(queue) == 0 {
					want.Left = s.Turns
				}
				isTrain(t, p, kind, want, api.OK)
			}
		}
		isTrain(t, in(s.Cost, 0), kind, in(0, s.Turns, kind), api.OK)
		isTrain(t, in(s.Cost-1, 1), kind, in(s.Cost-1, 1), api.ErrRange)
	}
}

// P11.3

func TestWorkOfNoQueue(t *testing.T) {
	for _, left := range ends {
		isWork(t, in(7, left), in(7, left), 0)
		isWork(t, out(7, left), out(7, left), 0)
	}
	p := in(7, 1)
	p.Queue = []int{}
	isWork(t, p, in(7, 1), 0)
}

func TestWorkOfWhoIsOut(t *testing.T) {
	for _, left := range ends {
		isWork(t, out(7, left, 2), out(7, left, 2), 0)
		isWork(t, out(7, left, 3, 4, 2), out(7, left, 3, 4, 2), 0)
	}
}

func TestWork(t *testing.T) {
	for _, queue := range [][]int{{2}, {3}, {4}, {2, 3}, {4, 3, 2}, {3, 2, 4, 2, 2}, {api.Base, 2}, {77}, {-5, 2}} {
		for _, left := range ends {
			if left > 1 {
				isWork(t, in(left, left, queue...), in(left, left-1, queue...), 0)
			}
			// What is ready stays ready, and Left doesn't go below what it was.
			if left <= 0 {
				isWork(t, in(left, left, queue...), in(left, left, queue...), queue[0])
			}
		}
		isWork(t, in(7, 1, queue...), in(7, 0, queue...), queue[0])
		isWork(t, in(7, 2, queue...), in(7, 1, queue...), 0)
	}
	// A queue may begin with 0: then that is what comes.
	isWork(t, in(7, 1, 0, 2), in(7, 0, 0, 2), 0)
}

func TestPop(t *testing.T) {
	for _, left := range ends {
		if left > 0 {
			continue
		}
		for kind, s := range kinds {
			isPop(t, in(7, left, 3, kind), in(7, s.Turns, kind), api.OK)
			isPop(t, in(7, left, kind, 4), in(7, 2, 4), api.OK)
			isPop(t, in(7, left, 99, kind, 4), in(7, s.Turns, kind, 4), api.OK)
			isPop(t, in(7, left, kind), in(7, 0), api.OK)
			// Whether the player is in isn't asked.
			isPop(t, out(7, left, 3, kind), out(7, s.Turns, kind), api.OK)
			isPop(t, out(7, left, kind), out(7, 0), api.OK)
		}
		for _, no := range noKinds {
			isPop(t, in(7, left, 3, no), in(7, 0, no), api.OK)
			isPop(t, in(7, left, 3, no, 3), in(7, 0, no, 3), api.OK)
			isPop(t, in(7, left, no), in(7, 0), api.OK)
			isPop(t, in(7, left, no, 3), in(7, 3, 3), api.OK)
		}
	}
	isPop(t, in(-9, 0, 2, 3, 4, 2, 1), in(-9, 3, 3, 4, 2, 1), api.OK)
}

func TestPopOfNothing(t *testing.T) {
	for _, left := range ends {
		for _, p := range []api.Player{in(7, left), out(7, left), {Left: left, Queue: []int{}}} {
			isPop(t, p, p, api.ErrState)
		}
		if left <= 0 {
			continue
		}
		for _, p := range []api.Player{in(7, left, 2), out(7, left, 2), in(7, left, 2, 3), in(7, left, 0), in(7, left, 3, 4, 2, 2)} {
			isPop(t, p, p, api.ErrState)
		}
	}
	isPop(t, api.Player{}, api.Player{}, api.ErrState)
}

// P11.4

// digs answers by taking piece by piece; load and ore are held already.
func digs(load, ore int) (int, int) {
	for range 5 {
		if ore == 0 || load == 10 {
			break
		}
		load, ore = load+1, ore-1
	}
	return load, ore
}

// held answers what of n is no less than low and no more than high.
func held(n, low, high int) int {
	if n < low {
		return low
	}
	if n > high {
		return high
	}
	return n
}

func TestDig(t *testing.T) {
	for _, k := range []struct{ load, ore, wantLoad, wantOre int }{
		{0, 0, 0, 0}, {0, 1, 1, 0}, {0, 4, 4, 0}, {0, 5, 5, 0}, {0, 6, 5, 1}, {0, 1000, 5, 995},
		{4, 9, 9, 4}, {5, 5, 10, 0}, {5, 9, 10, 4}, {6, 9, 10, 5}, {7, 2, 9, 0}, {7, 3, 10, 0}, {7, 4, 10, 1}, {9, 9, 10, 8}, {10, 9, 10, 9}, {10, 0, 10, 0},
		// Held first.
		{-1, 9, 5, 4}, {-7, 3, 3, 0}, {11, 9, 10, 9}, {12, 0, 10, 0}, {3, -1, 3, 0}, {3, -9, 3, 0}, {-3, -3, 0, 0}, {99, -3, 10, 0},
		{math.MinInt, math.MinInt, 0, 0}, {math.MaxInt, math.MaxInt, 10, math.MaxInt}, {math.MinInt, math.MaxInt, 5, math.MaxInt - 5}, {math.MaxInt, math.MinInt, 10, 0},
	} {
		isDig(t, k.load, k.ore, k.wantLoad, k.wantOre)
	}
}

func TestDigAgainstPieces(t *testing.T) {
	check := func(load, ore int) {
		wantLoad, wantOre := digs(held(load, 0, 10), held(ore, 0, math.MaxInt))
		isDig(t, load, ore, wantLoad, wantOre)
	}
	for load := -20; load <= 40; load++ {
		for ore := -20; ore <= 1010; ore++ {
			check(load, ore)
		}
	}
	for _, load := range ends {
		for _, ore := range ends {
			check(load, ore)
		}
	}
}

func TestEarn(t *testing.T) {
	for _, k := range []struct{ ore, load, want int }{
		{0, 0, 0}, {0, 10, 10}, {7, 3, 10}, {50, 1, 51}, {99990, 10, 100000}, {99991, 10, 100000}, {99989, 10, 99999}, {99999, 1, 100000}, {99999, 2, 100000},
		{100000, 0, 100000}, {100000, 1, 100000}, {100000, 10, 100000},
		// Loads that are none, or too great.
		{50, -1, 50}, {50, -10, 50}, {50, math.MinInt, 50}, {0, 100000, 100000}, {0, 100001, 100000}, {50, 99949, 99999}, {50, math.MaxInt, 100000},
		// Who had more keeps it.
		{100001, 0, 100001}, {100001, 10, 100001}, {100001, -10, 100001}, {math.MaxInt, 1, math.MaxInt}, {math.MaxInt, math.MaxInt, math.MaxInt}, {math.MaxInt - 5, 10, math.MaxInt - 5},
		// Who had less than nothing has so much more of it.
		{-5, 10, 5}, {-5, 0, -5}, {-5, -5, -5}, {-100000, 100000, 0}, {-100000, 100001, 0}, {-100001, math.MaxInt, -1},
		{math.MinInt, 10, math.MinInt + 10}, {math.MinInt, math.MaxInt, math.MinInt + 100000}, {math.MinInt, math.MinInt, math.MinInt},
	} {
		isEarn(t, in(k.ore, 2, 3, 4), k.load, in(k.want, 2, 3, 4))
		isEarn(t, out(k.ore, -1), k.load, out(k.want, -1))
	}
}

func TestEarnAgainstReckoning(t *testing.T) {
	for _, ore := range ends {
		for _, load := range append([]int{49999, 50000, 99998, 100002}, ends...) {
			want := ore
			if ore <= 100000 {
				want = held(ore+held(load, 0, 100000), math.MinInt, 100000)
			}
			isEarn(t, in(ore, 1, 2), load, in(want, 1, 2))
		}
	}
}

// P11.5: what follows

// trainee is what is paid for: what, and how many turns it still takes.
type trainee struct{ kind, left int }

func TestTrainingCostsWhatItSaysEachOnce(t *testing.T) {
	d := dice(11)
	for range 50 {
		p, ore := in(d.below(400), 0), 0
		ore = p.Ore
		var waiting []trainee
		for range 300 {
			switch d.below(3) {
			case 0:
				kind := d.below(6)
				q, e := Train(p, kind)
				want := 2 <= kind && kind <= 4 && len(waiting) < 3 && ore >= kinds[kind].Cost
				if (e == api.OK) != want {
					t.Fatal(p, kind, e)
				}
				if want {
					ore -= kinds[kind].Cost
					waiting = append(waiting, trainee{kind, kinds[kind].Turns})
				}
				p = q
			case 1:
				q, kind := Work(p)
				want := 0
				if len(waiting) > 0 {
					waiting[0].left = max(waiting[0].left-1, 0)
					if waiting[0].left == 0 {
						want = waiting[0].kind
					}
				}
				if kind != want {
					t.Fatal(p, kind, want)
				}
				p = q
			case 2:
				q, e := Pop(p)
				ready := len(waiting) > 0 && waiting[0].left == 0
				if (e == api.OK) != ready {
					t.Fatal(p, e)
				}
				if ready {
					waiting = waiting[1:]
				}
				p = q
			}
			if d.below(9) == 0 {
				load := d.below(11)
				p, ore = Earn(p, load), ore+load
			}
			isKept(t, p, ore, waiting)
		}
	}
}

// isKept asks that p has that ore, and that what is waiting is in its queue.
func isKept(t *testing.T, p api.Player, ore int, waiting []trainee) {
	t.Helper()
	want := in(ore, 0)
	for _, w := range waiting {
		want.Queue = append(want.Queue, w.kind)
	}
	if len(waiting) > 0 {
		want.Left = waiting[0].left
	}
	if !same(p, want) {
		t.Fatal(p, want)
	}
}

func TestEachKindTakesItsTurns(t *testing.T) {
	for _, kind := range []int{api.Worker, api.Soldier, api.Scout} {
		p := in(1000, 0)
		for range api.MaxQueue {
			p, _ = Train(p, kind)
		}
		for made := 1; made <= api.MaxQueue; made++ {
			for turn := 1; turn <= kinds[kind].Turns; turn++ {
				q, ready := Work(p)
				if (ready == kind) != (turn == kinds[kind].Turns) || ready != 0 && ready != kind {
					t.Error(p, made, turn, ready)
				}
				p = q
			}
			p, _ = Pop(p)
		}
		if !same(p, in(1000-3*kinds[kind].Cost, 0)) {
			t.Error(p)
		}
	}
}

func TestWhatIsDugIsWhatIsMissing(t *testing.T) {
	for load := 0; load <= 10; load++ {
		for ore := 0; ore <= api.MaxOre; ore++ {
			l, o := Dig(load, ore)
			if l+o != load+ore || l < load || l > 10 || o < 0 || l-load > 5 {
				t.Fatal(load, ore, l, o)
			}
		}
	}
	// A cell is carried home whole, by no more than ten at a time.
	p, load, left := in(0, 0), 0, 237
	for left > 0 {
		load, left = Dig(load, left)
		if load == 10 || left == 0 {
			p, load = Earn(p, load), 0
		}
	}
	if p.Ore != 237 || load != 0 {
		t.Error(p, load)
	}
}

// R5: what is handed in is left as it is, its spare room too; what is answered is new memory

// calls are all that answer a player, each with players of its errors too.
func calls(p api.Player) []api.Player {
	var all []api.Player
	for kind := -1; kind <= 5; kind++ {
		q, _ := Train(p, kind)
		all = append(all, q)
	}
	worked, _ := Work(p)
	popped, _ := Pop(p)
	return append(all, worked, popped, Earn(p, 10), Earn(p, -1))
}

func TestQueuesAreLeftAlone(t *testing.T) {
	for size := range 6 {
		for _, left := range []int{-1, 0, 1, 2} {
			for _, ore := range []int{0, 20, 100, 100000} {
				for _, is := range []bool{false, true} {
					room := []int{2, 3, 4, 2, 3, 91, 92, 93, 94}
					kept := slices.Clone(room)
					p := api.Player{Ore: ore, In: is, Queue: room[:size], Left: left}
					answers := calls(p)
					if !slices.Equal(room, kept) {
						t.Fatal(p, room)
					}
					isApart(t, room, kept, answers)
				}
			}
		}
	}
}

// isApart asks that answers hang neither on the room that was handed in nor on one another.
func isApart(t *testing.T, room, kept []int, answers []api.Player) {
	t.Helper()
	var queues [][]int
	for _, p := range answers {
		queues = append(queues, slices.Clone(p.Queue))
	}
	for i := range room {
		room[i] = -100
	}
	for i, p := range answers {
		if !slices.Equal(p.Queue, queues[i]) {
			t.Fatal(i, p)
		}
	}
	copy(room, kept)
	for i, p := range answers {
		for j := range p.Queue[:cap(p.Queue)] {
			p.Queue[:cap(p.Queue)][j] = -200
		}
		for j := i + 1; j < len(answers); j++ {
			if !slices.Equal(answers[j].Queue, queues[j]) {
				t.Fatal(i, j, answers[j])
			}
		}
	}
	if !slices.Equal(room, kept) {
		t.Fatal(room)
	}
}

func TestZeroPlayers(t *testing.T) {
	isTrain(t, api.Player{}, api.Worker, api.Player{}, api.ErrState)
	isTrain(t, api.Player{In: true}, api.Worker, api.Player{In: true}, api.ErrRange)
	isWork(t, api.Player{}, api.Player{}, 0)
	isEarn(t, api.Player{}, 3, api.Player{Ore: 3})
}
