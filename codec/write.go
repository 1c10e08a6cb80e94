package codec

import (
	"skirmish/api"
)

// The functions of this file write what is formed: their callers have asked.

func appendInt(b []byte, n int) []byte {
	return appendSevens(b, uint64(n))
}

func appendList[M any](b []byte, members []M, write func([]byte, M) []byte) []byte {
	b = appendInt(b, len(members))
	for _, member := range members {
		b = write(b, member)
	}
	return b
}

func appendCommand(b []byte, c api.Command) []byte {
	named := namedBy(c.Kind)
	b = appendInt(b, c.Kind)
	if named.unit {
		b = appendInt(b, c.Unit)
	}
	if named.target {
		b = appendInt(b, c.Target)
	}
	if named.what {
		b = appendInt(b, c.What)
	}
	if named.cell {
		b = appendInt(b, c.Cell.X)
		b = appendInt(b, c.Cell.Y)
	}
	return b
}

func appendBody(b []byte, s api.Sealed) []byte {
	b = appendSevens(b, s.Match)
	b = appendInt(b, s.Player)
	b = appendInt(b, s.Turn)
	empty := 0
	if s.Empty {
		empty = 1
	}
	b = appendInt(b, empty)
	return appendList(b, s.Commands, appendCommand)
}

func appendSealed(b []byte, s api.Sealed) []byte {
	return append(appendBody(b, s), s.Tag[:]...)
}

func appendBlock(b []byte, k api.Block) []byte {
	b = appendInt(b, k.Turn)
	b = append(b, k.Prev[:]...)
	b = append(b, k.Root[:]...)
	b = append(b, k.State[:]...)
	return appendList(b, k.All, appendSealed)
}

func appendClaim(b []byte, r api.Result) []byte {
	b = appendSevens(b, r.Match)
	b = appendInt(b, r.Turns)
	b = appendInt(b, r.Winner+1)
	return append(b, r.Last[:]...)
}

func appendReplay(b []byte, l []api.Block) []byte {
	return appendList(b, l, appendBlock)
}
