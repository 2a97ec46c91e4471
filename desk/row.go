package desk

import (
	"strconv"
	"strings"

	"meetwater/api"
)

const (
	quote    = '"'
	escape   = '\\'
	hex      = "0123456789abcdef"
	hexBytes = 3 // an escape, and two digits
)

// cellWords is the words that mean values.
func cellWords() map[string]api.Value {
	return map[string]api.Value{
		"null":  {},
		"false": {Kind: api.Bool},
		"true":  {Kind: api.Bool, N: 1},
	}
}

// showCells relies on the row's having a key.
func showCells(row []api.Value) string {
	var b strings.Builder
	for at, v := range row {
		if at > 0 {
			b.WriteString(blank)
		}
		showCell(&b, v)
	}
	return b.String()
}

func showCell(b *strings.Builder, v api.Value) {
	switch v.Kind {
	case api.Null:
		b.WriteString("null")
	case api.Bool:
		b.WriteString(strconv.FormatBool(v.N == 1))
	case api.Int:
		b.WriteString(strconv.Itoa(v.N))
	default:
		showText(b, v.S)
	}
}

func showText(b *strings.Builder, s string) {
	b.WriteByte(quote)
	for i := range len(s) {
		if isPlain(s[i]) {
			b.WriteByte(s[i])
		} else {
			b.WriteByte(escape)
			b.WriteByte(hex[s[i]>>4])
			b.WriteByte(hex[s[i]&15])
		}
	}
	b.WriteByte(quote)
}

// isPlain tells whether a text's byte is shown as it is.
func isPlain(c byte) bool { return ' ' <= c && c <= '~' && c != quote && c != escape }

// readCells is the row that a text of some cells shows; no cells, if there is
// none.
func readCells(s string) []api.Value {
	known := cellWords()
	var row []api.Value
cells:
	for len(row) < api.MaxCells {
		v, rest, ok := readCell(s, known)
		switch {
		case !ok:
			break cells
		case rest == "":
			return append(row, v)
		case rest[0] != ' ':
			break cells
		}
		row = append(row, v)
		s = rest[1:]
	}
	return nil
}

// readCell reads the cell that a text begins with, and tells what is behind it.
func readCell(s string, known map[string]api.Value) (api.Value, string, bool) {
	if s != "" && s[0] == quote {
		text, rest, ok := readText(s[1:])
		return api.Value{Kind: api.Text, S: text}, rest, ok
	}
	end := strings.IndexByte(s, ' ')
	if end < 0 {
		end = len(s)
	}
	if v, ok := known[s[:end]]; ok {
		return v, s[end:], true
	}
	n, ok := number(s[:end])
	return api.Value{Kind: api.Int, N: n}, s[end:], ok
}

// readText reads a text to the quote behind it, and gives up behind MaxText
// bytes: no row has more of them, however long they go on.
func readText(s string) (string, string, bool) {
	var text []byte
	for s != "" && len(text) <= api.MaxText {
		if s[0] == quote {
			return string(text), s[1:], true
		}
		c, size := readByte(s)
		if size == 0 {
			break
		}
		text = append(text, c)
		s = s[size:]
	}
	return "", "", false
}

// readByte reads a byte of a text that does not end here, and tells how many
// bytes show it; 0, if none is shown so.
func readByte(s string) (byte, int) {
	if isPlain(s[0]) {
		return s[0], 1
	}
	if s[0] != escape || len(s) < hexBytes {
		return 0, 0
	}
	high, low := strings.IndexByte(hex, s[1]), strings.IndexByte(hex, s[2])
	if high < 0 || low < 0 {
		return 0, 0
	}
	c := byte(high<<4 | low)
	if isPlain(c) { // it is shown as it is, and no other way
		return 0, 0
	}
	return c, hexBytes
}
