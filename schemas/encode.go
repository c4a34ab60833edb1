package schemas

import "rollout/api"

// mostDigits is how many decimal digits the longest number has; with no more of them an int64 can't overflow.
const mostDigits = 16

// Encode answers the data, however many, of the value with this text; false, if the text is not that of a value of the type.
func Encode(t Type, text string) (string, bool) {
	data, next, ok := encodeAt(t, text, 0)
	if !ok || next != len(text) {
		return "", false
	}
	return data, true
}

// encodeAt answers the data of the value whose text begins at a place, and the place behind that text.
func encodeAt(t Type, text string, at int) (string, int, bool) {
	switch t.Kind {
	case Small:
		return encodeNumber(smallLow, smallHigh, text, at)
	case Large:
		return encodeNumber(largeLow, largeHigh, text, at)
	case String:
		return encodeString(text, at)
	case Choice:
		return encodeChoice(t.Letters, text, at)
	case List:
		return encodeList(t.inner(), text, at)
	case Maybe:
		return encodeMaybe(t.inner(), text, at)
	case Record:
		return encodeRecord(t.Fields, text, at)
	}
	return "", at, false
}

func encodeNumber(low int64, high int64, text string, at int) (string, int, bool) {
	n, next, ok := parseNumber(text, at)
	if !ok || n < low || n > high {
		return "", at, false
	}
	return numberData(n), next, true
}

func parseNumber(text string, at int) (int64, int, bool) {
	below := byteAt(text, at) == '-'
	from := at
	if below {
		from++
	}
	n, end, ok := parseDigits(text, from)
	if !ok || below && n == 0 {
		return 0, at, false
	}
	if below {
		n = -n
	}
	return n, end, true
}

// parseDigits takes all digits that there are, so that what is left behind them can't begin with one.
func parseDigits(text string, from int) (int64, int, bool) {
	var n int64
	end := from
	for isDigit(byteAt(text, end)) {
		if end-from == mostDigits {
			return 0, from, false
		}
		n = n*10 + int64(byteAt(text, end)-'0')
		end++
	}
	if end == from {
		return 0, from, false
	}
	if end-from > 1 && byteAt(text, from) == '0' {
		return 0, from, false
	}
	return n, end, true
}

func numberData(n int64) string {
	u := 2 * n
	if n < 0 {
		u = -2*n - 1
	}
	data := ""
	for u >= 128 {
		data += oneByte(int(u%128) + 128)
		u = u / 128
	}
	return data + oneByte(int(u))
}

func encodeString(text string, at int) (string, int, bool) {
	if byteAt(text, at) != '"' {
		return "", at, false
	}
	from := at + 1
	end := from
	for inString(byteAt(text, end)) {
		end++
	}
	if byteAt(text, end) != '"' || end-from > api.MaxString {
		return "", at, false
	}
	return oneByte(end-from) + span(text, from, end), end + 1, true
}

func encodeChoice(letters string, text string, at int) (string, int, bool) {
	place := placeOf(letters, byteAt(text, at))
	if place < 0 {
		return "", at, false
	}
	return oneByte(place), at + 1, true
}

func encodeList(item Type, text string, at int) (string, int, bool) {
	if byteAt(text, at) != '[' {
		return "", at, false
	}
	if byteAt(text, at+1) == ']' {
		return oneByte(0), at + 2, true
	}
	data := ""
	before := at
	for count := 1; count <= api.MaxItems; count++ {
		itemData, next, ok := encodeAt(item, text, before+1)
		if !ok {
			return "", at, false
		}
		data += itemData
		behind := byteAt(text, next)
		if behind == ']' {
			return oneByte(count) + data, next + 1, true
		}
		if behind != ',' {
			return "", at, false
		}
		before = next
	}
	return "", at, false
}

func encodeMaybe(value Type, text string, at int) (string, int, bool) {
	if byteAt(text, at) == '_' {
		return oneByte(0), at + 1, true
	}
	data, next, ok := encodeAt(value, text, at)
	if !ok {
		return "", at, false
	}
	return oneByte(1) + data, next, true
}

func encodeRecord(fields []Field, text string, at int) (string, int, bool) {
	data := ""
	before := at
	var mark int = '{'
	for _, field := range fields {
		if byteAt(text, before) != mark || byteAt(text, before+1) != field.Letter || byteAt(text, before+2) != ':' {
			return "", at, false
		}
		fieldData, next, ok := encodeAt(field.Type, text, before+3)
		if !ok {
			return "", at, false
		}
		data += fieldData
		before = next
		mark = ','
	}
	if byteAt(text, before) != '}' {
		return "", at, false
	}
	return data, before + 1, true
}
