package value

import "meetwater/api"

// In a key's text a byte 0 is followed by inner, if it is the text's own, and
// by end behind the text. End is less than inner, and 0 less than all other
// bytes, so a text comes ahead of those that go on behind it.
const (
	end   = 1
	inner = 255
)

// signBit turns an Int into a number whose bytes stand in the order of Ints.
const signBit = 1 << 63

const intBytes = 8

// Key is a row's key: bytes that stand in the order of rows.
func Key(row []api.Value) (string, api.Errno) {
	if len(row) > api.MaxCells {
		return "", api.ErrMany
	}
	var key []byte
	for _, v := range row {
		if e := Check(v); e != api.OK {
			return "", e
		}
		key = appendCell(key, v)
	}
	return string(key), api.OK
}

// Back is the row of which this is the key.
func Back(key string) ([]api.Value, api.Errno) {
	var row []api.Value
	for len(key) > 0 {
		v, rest, ok := readCell(key)
		if !ok || Check(v) != api.OK || len(row) == api.MaxCells {
			return nil, api.ErrForm
		}
		row = append(row, v)
		key = rest
	}
	return row, api.OK
}

func appendCell(key []byte, v api.Value) []byte {
	key = append(key, byte(v.Kind))
	switch v.Kind {
	case api.Bool:
		key = append(key, byte(v.N))
	case api.Int:
		key = appendInt(key, v.N)
	case api.Text:
		key = appendText(key, v.S)
	}
	return key
}

func appendInt(key []byte, n int) []byte {
	u := uint64(n) ^ signBit
	for shift := 8 * (intBytes - 1); shift >= 0; shift -= 8 {
		key = append(key, byte(u>>shift))
	}
	return key
}

func appendText(key []byte, s string) []byte {
	for i := range len(s) {
		key = append(key, s[i])
		if s[i] == 0 {
			key = append(key, inner)
		}
	}
	return append(key, 0, end)
}

// readCell reads the cell that a key of one byte at least begins with, and
// tells what is behind it. Whether the value is right is left to Check.
func readCell(key string) (api.Value, string, bool) {
	kind, rest := int(key[0]), key[1:]
	switch kind {
	case api.Null:
		return api.Value{}, rest, true
	case api.Bool:
		if len(rest) == 0 {
			return api.Value{}, "", false
		}
		return api.Value{Kind: kind, N: int(rest[0])}, rest[1:], true
	case api.Int:
		if len(rest) < intBytes {
			return api.Value{}, "", false
		}
		return api.Value{Kind: kind, N: readInt(rest[:intBytes])}, rest[intBytes:], true
	case api.Text:
		text, behind, ok := readText(rest)
		return api.Value{Kind: kind, S: text}, behind, ok
	}
	return api.Value{}, "", false
}

func readInt(b string) int {
	var u uint64
	for i := range len(b) {
		u = u<<8 | uint64(b[i])
	}
	return int(u ^ signBit)
}

// readText gives up behind MaxText bytes: no key has more, however long it is.
func readText(key string) (string, string, bool) {
	var text []byte
	for i := 0; i < len(key) && len(text) <= api.MaxText; i++ {
		if key[i] != 0 {
			text = append(text, key[i])
			continue
		}
		i++
		if i == len(key) {
			break
		}
		switch key[i] {
		case end:
			return string(text), key[i+1:], true
		case inner:
			text = append(text, 0)
		default:
			return "", "", false
		}
	}
	return "", "", false
}
