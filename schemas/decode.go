package schemas

import (
	"strconv"

	"rollout/api"
)

// mostBytes is how many bytes of data the largest number has; with no more of them an int64 can't overflow.
const mostBytes = 8

// Decode answers the text of the value with these data; false, if they are not just the data of a value of the type.
func Decode(t Type, data string) (string, bool) {
	text, next, ok := decodeAt(t, data, 0)
	if !ok || next != len(data) {
		return "", false
	}
	return text, true
}

// decodeAt answers the text of the value whose data begin at a place, and the place behind those data.
func decodeAt(t Type, data string, at int) (string, int, bool) {
	switch t.Kind {
	case Small:
		return decodeNumber(smallLow, smallHigh, data, at)
	case Large:
		return decodeNumber(largeLow, largeHigh, data, at)
	case String:
		return decodeString(data, at)
	case Choice:
		return decodeChoice(t.Letters, data, at)
	case List:
		return decodeList(t.inner(), data, at)
	case Maybe:
		return decodeMaybe(t.inner(), data, at)
	case Record:
		return decodeRecord(t.Fields, data, at)
	}
	return "", at, false
}

func decodeNumber(low int64, high int64, data string, at int) (string, int, bool) {
	u, next, ok := unsignedAt(data, at)
	if !ok {
		return "", at, false
	}
	n := u / 2
	if u%2 == 1 {
		n = -n - 1
	}
	if n < low || n > high {
		return "", at, false
	}
	return strconv.FormatInt(n, 10), next, true
}

// unsignedAt answers the number that the digits to the base 128 at a place give; false, if they do not end or are more than it needs.
func unsignedAt(data string, at int) (int64, int, bool) {
	var u int64
	var weight int64 = 1
	for k := 0; k < mostBytes; k++ {
		digit := byteAt(data, at+k)
		if digit < 0 || digit == 0 && k > 0 {
			return 0, at, false
		}
		if digit < 128 {
			return u + int64(digit)*weight, at + k + 1, true
		}
		u += int64(digit-128) * weight
		weight *= 128
	}
	return 0, at, false
}

func decodeString(data string, at int) (string, int, bool) {
	length := byteAt(data, at)
	if length < 0 || length > api.MaxString {
		return "", at, false
	}
	from := at + 1
	end := from + length
	for k := from; k < end; k++ {
		if !inString(byteAt(data, k)) {
			return "", at, false
		}
	}
	return "\"" + span(data, from, end) + "\"", end, true
}

func decodeChoice(letters string, data string, at int) (string, int, bool) {
	place := byteAt(data, at)
	letter := byteAt(letters, place)
	if letter < 0 {
		return "", at, false
	}
	return oneByte(letter), at + 1, true
}

func decodeList(item Type, data string, at int) (string, int, bool) {
	count := byteAt(data, at)
	if count < 0 || count > api.MaxItems {
		return "", at, false
	}
	text := "["
	from := at + 1
	for k := 0; k < count; k++ {
		itemText, next, ok := decodeAt(item, data, from)
		if !ok {
			return "", at, false
		}
		if k > 0 {
			text += ","
		}
		text += itemText
		from = next
	}
	return text + "]", from, true
}

func decodeMaybe(value Type, data string, at int) (string, int, bool) {
	mark := byteAt(data, at)
	if mark == 0 {
		return "_", at + 1, true
	}
	if mark != 1 {
		return "", at, false
	}
	text, next, ok := decodeAt(value, data, at+1)
	if !ok {
		return "", at, false
	}
	return text, next, true
}

func decodeRecord(fields []Field, data string, at int) (string, int, bool) {
	text := ""
	from := at
	mark := "{"
	for _, field := range fields {
		fieldText, next, ok := decodeAt(field.Type, data, from)
		if !ok {
			return "", at, false
		}
		text += mark + oneByte(field.Letter) + ":" + fieldText
		from = next
		mark = ","
	}
	return text + "}", from, true
}
