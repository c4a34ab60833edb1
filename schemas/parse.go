package schemas

import "rollout/api"

// Parse answers the type that a schema tells; false, if the text is no schema.
func Parse(text string) (Type, bool) {
	// The bound also holds down the depth of the recursion.
	if len(text) > api.MaxSchema {
		return Type{}, false
	}
	t, next, ok := parseType(text, 0)
	if !ok || next != len(text) {
		return Type{}, false
	}
	return t, true
}

// parseType answers the type that begins at a place of the text, and the place behind it.
func parseType(text string, at int) (Type, int, bool) {
	kind := byteAt(text, at)
	switch kind {
	case Small, Large, String:
		return Type{Kind: kind}, at + 1, true
	case Choice:
		return parseChoice(text, at+1)
	case List:
		return parseList(text, at+1)
	case Maybe:
		return parseMaybe(text, at+1)
	case Record:
		return parseRecord(text, at+1)
	}
	return Type{}, at, false
}

func parseChoice(text string, at int) (Type, int, bool) {
	end := lettersEnd(text, at)
	letters := span(text, at, end)
	if len(letters) < 1 || len(letters) > api.MaxLetters {
		return Type{}, at, false
	}
	open := byteAt(text, end) == '+'
	if open {
		end++
	}
	if byteAt(text, end) != '>' {
		return Type{}, at, false
	}
	return Type{Kind: Choice, Letters: letters, Open: open}, end + 1, true
}

// lettersEnd answers the place behind the different letters that stand at a place: the first that is there again ends them.
func lettersEnd(text string, from int) int {
	end := from
	for end < len(text) {
		letter := byteAt(text, end)
		if !isLetter(letter) || placeOf(span(text, from, end), letter) >= 0 {
			return end
		}
		end++
	}
	return end
}

func parseList(text string, at int) (Type, int, bool) {
	item, next, ok := parseType(text, at)
	if !ok || byteAt(text, next) != ']' {
		return Type{}, at, false
	}
	return Type{Kind: List, Inner: []Type{item}}, next + 1, true
}

func parseMaybe(text string, at int) (Type, int, bool) {
	value, next, ok := parseType(text, at)
	if !ok || value.Kind == Maybe {
		return Type{}, at, false
	}
	return Type{Kind: Maybe, Inner: []Type{value}}, next, true
}

func parseRecord(text string, at int) (Type, int, bool) {
	fields := []Field{}
	for at < len(text) {
		field, next, ok := parseField(text, at)
		if !ok || placeOfField(fields, field.Letter) >= 0 {
			return Type{}, at, false
		}
		fields = append(fields, field)
		behind := byteAt(text, next)
		if behind == '}' {
			return Type{Kind: Record, Fields: fields}, next + 1, true
		}
		if behind != ',' {
			return Type{}, at, false
		}
		at = next + 1
	}
	return Type{}, at, false
}

func parseField(text string, at int) (Field, int, bool) {
	letter := byteAt(text, at)
	if !isLetter(letter) || byteAt(text, at+1) != ':' {
		return Field{}, at, false
	}
	t, next, ok := parseType(text, at+2)
	if !ok {
		return Field{}, at, false
	}
	if byteAt(text, next) != '=' {
		return Field{Letter: letter, Type: t}, next, true
	}
	_, end, valid := encodeAt(t, text, next+1)
	if !valid {
		return Field{}, at, false
	}
	return Field{Letter: letter, Type: t, Default: span(text, next+1, end)}, end, true
}
