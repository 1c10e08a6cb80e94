package grid

import (
	"strings"

	"skirmish/api"
)

const (
	maxText = 1000 // bytes of a text that is read
	signOre = 10   // ore of a cell for each 1 of its sign
	maxSign = 9
)

// Read answers the map of a text: ErrLong if it is too long, ErrForm if it is no formed map's.
func Read(text string) (api.Map, api.Errno) {
	if len(text) > maxText {
		return api.Map{}, api.ErrLong
	}
	m, ok := readRows(text)
	if !ok || !Formed(m) {
		return api.Map{}, api.ErrForm
	}
	return m, api.OK
}

// readRows answers the map of rows that are equally long, formed or not, and whether they are such rows.
func readRows(text string) (api.Map, bool) {
	body, ended := strings.CutSuffix(text, "\n")
	if !ended {
		return api.Map{}, false
	}
	rows := strings.Split(body, "\n")
	m := api.Map{W: len(rows[0]), H: len(rows)}
	for _, row := range rows {
		if len(row) != m.W {
			return api.Map{}, false
		}
		for i := range len(row) {
			tile, ore, ok := readSign(row[i])
			if !ok {
				return api.Map{}, false
			}
			m.Tiles = append(m.Tiles, tile)
			m.Ore = append(m.Ore, ore)
		}
	}
	return m, true
}

// readSign answers the tile and the amount of ore that a sign stands for, and whether it stands for any.
func readSign(sign byte) (tile, ore int, ok bool) {
	switch {
	case sign == '.':
		return api.Open, 0, true
	case sign == '#':
		return api.Rock, 0, true
	case sign == '$':
		return api.Ore, 0, true
	case sign >= '1' && sign <= '0'+maxSign:
		return api.Ore, int(sign-'0') * signOre, true
	}
	return 0, 0, false
}

// Text answers the text of m: ErrForm if m isn't formed, or has an amount of ore that no sign stands for.
func Text(m api.Map) (string, api.Errno) {
	if !Formed(m) {
		return "", api.ErrForm
	}
	var b strings.Builder
	for y := range m.H {
		for x := range m.W {
			i := y*m.W + x
			if !hasSign(m.Ore[i]) {
				return "", api.ErrForm
			}
			b.WriteByte(signOf(m.Tiles[i], m.Ore[i]))
		}
		b.WriteByte('\n')
	}
	return b.String(), api.OK
}

// hasSign answers whether a sign stands for that amount of ore.
func hasSign(ore int) bool {
	return ore%signOre == 0 && ore <= maxSign*signOre
}

// signOf answers the sign of a tile of a formed map whose amount of ore has a sign.
func signOf(tile, ore int) byte {
	switch {
	case tile == api.Open:
		return '.'
	case tile == api.Rock:
		return '#'
	case ore == 0:
		return '$'
	}
	return '0' + byte(ore/signOre)
}
