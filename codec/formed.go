package codec

import (
	"math"

	"skirmish/api"
)

const (
	mostID   = math.MaxInt32
	mostWhat = api.Scout
	mostSide = api.MaxSide - 1
)

// fields tells which fields of a command its Kind names.
type fields struct {
	unit, target, what, cell bool
}

func namedBy(kind int) fields {
	switch kind {
	case api.Move, api.Gather:
		return fields{unit: true, cell: true}
	case api.Attack:
		return fields{unit: true, target: true}
	case api.Train:
		return fields{unit: true, what: true}
	case api.Stop:
		return fields{unit: true}
	}
	return fields{}
}

func within(n, most int) bool {
	return n >= 0 && n <= most
}

func fieldsInRange(c api.Command) bool {
	return within(c.Unit, mostID) && within(c.Target, mostID) && within(c.What, mostWhat) &&
		within(c.Cell.X, mostSide) && within(c.Cell.Y, mostSide)
}

// withNamedFieldsOnly answers c with every field 0 that its Kind doesn't name.
func withNamedFieldsOnly(c api.Command) api.Command {
	named := namedBy(c.Kind)
	bare := api.Command{Kind: c.Kind}
	if named.unit {
		bare.Unit = c.Unit
	}
	if named.target {
		bare.Target = c.Target
	}
	if named.what {
		bare.What = c.What
	}
	if named.cell {
		bare.Cell = c.Cell
	}
	return bare
}

func sealedFormed(s api.Sealed) bool {
	if s.Match > mostNumber || !within(s.Player, api.MaxPlayers-1) || !within(s.Turn, api.MaxTurns-1) {
		return false
	}
	if s.Empty && len(s.Commands) > 0 {
		return false
	}
	return allFormed(s.Commands, api.MaxCommands, Formed)
}

func blockFormed(k api.Block) bool {
	return within(k.Turn, api.MaxTurns-1) && len(k.All) > 0 && allFormed(k.All, api.MaxPlayers, sealedFormed)
}

func resultFormed(r api.Result) bool {
	return r.Match <= mostNumber && within(r.Turns, api.MaxTurns) && r.Winner >= -1 && r.Winner < api.MaxPlayers
}

func replayFormed(l []api.Block) bool {
	return allFormed(l, api.MaxTurns, blockFormed)
}

// allFormed tells whether there are at most as many members as may be, all formed.
func allFormed[M any](members []M, most int, formed func(M) bool) bool {
	if len(members) > most {
		return false
	}
	for _, member := range members {
		if !formed(member) {
			return false
		}
	}
	return true
}
