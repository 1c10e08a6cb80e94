package codec

import (
	"skirmish/api"
)

// reader takes things from the beginning of bytes.
// Once bytes mean nothing it is bad, and stays so: what it answers then is of no use.
type reader struct {
	rest []byte
	bad  bool
}

// readWhole answers the thing whose bytes b are, all of them.
func readWhole[T any](b []byte, take func(*reader) T) (T, api.Errno) {
	var none T
	if len(b) > api.MaxReplay {
		return none, api.ErrLong
	}
	r := &reader{rest: b}
	thing := take(r)
	if r.bad || len(r.rest) > 0 {
		return none, api.ErrBad
	}
	return thing, api.OK
}

func (r *reader) fail() {
	r.bad = true
	r.rest = nil
}

func (r *reader) number(most uint64) uint64 {
	n, size := joinSevens(r.rest)
	if size == 0 || n > most {
		r.fail()
		return 0
	}
	r.rest = r.rest[size:]
	return n
}

func (r *reader) upTo(most int) int {
	return int(r.number(uint64(most)))
}

func (r *reader) digest() api.Digest {
	var d api.Digest
	if len(r.rest) < len(d) {
		r.fail()
		return d
	}
	copy(d[:], r.rest)
	r.rest = r.rest[len(d):]
	return d
}

// list takes a list of at most that many members.
func list[M any](r *reader, most int, take func(*reader) M) []M {
	var members []M
	for range r.upTo(most) {
		members = append(members, take(r))
	}
	return members
}

// command takes a command's fields: whether it is formed is asked of all that is sealed.
func (r *reader) command() api.Command {
	var c api.Command
	c.Kind = r.upTo(api.Resign)
	named := namedBy(c.Kind)
	if named.unit {
		c.Unit = r.upTo(mostID)
	}
	if named.target {
		c.Target = r.upTo(mostID)
	}
	if named.what {
		c.What = r.upTo(mostWhat)
	}
	if named.cell {
		c.Cell.X = r.upTo(mostSide)
		c.Cell.Y = r.upTo(mostSide)
	}
	return c
}

func (r *reader) sealed() api.Sealed {
	var s api.Sealed
	s.Match = r.number(mostNumber)
	s.Player = r.upTo(api.MaxPlayers - 1)
	s.Turn = r.upTo(api.MaxTurns - 1)
	s.Empty = r.upTo(1) == 1
	s.Commands = list(r, api.MaxCommands, (*reader).command)
	s.Tag = r.digest()
	if !sealedFormed(s) {
		r.fail()
	}
	return s
}

func (r *reader) block() api.Block {
	var k api.Block
	k.Turn = r.upTo(api.MaxTurns - 1)
	k.Prev = r.digest()
	k.Root = r.digest()
	k.State = r.digest()
	k.All = list(r, api.MaxPlayers, (*reader).sealed)
	if !blockFormed(k) {
		r.fail()
	}
	return k
}

func (r *reader) result() api.Result {
	var result api.Result
	result.Match = r.number(mostNumber)
	result.Turns = r.upTo(api.MaxTurns)
	result.Winner = r.upTo(api.MaxPlayers) - 1 // so that nobody, -1, is written as 0
	result.Last = r.digest()
	result.Tag = r.digest()
	return result
}

func (r *reader) replay() []api.Block {
	return list(r, api.MaxTurns, (*reader).block)
}
