package schemas

// Unreadable answers the text of a value of the writer's type that can't be read as the reader's; false, if there is none.
// Its data are no more bytes than the writer's schema has, since each part of it is the least of its type.
func Unreadable(writer Type, reader Type) (string, bool) {
	if writer.Kind == Maybe && reader.Kind == Maybe {
		return Unreadable(writer.inner(), reader.inner())
	}
	if reader.Kind == Maybe {
		return Unreadable(writer, reader.inner())
	}
	if sameValue(writer.Kind, reader.Kind) {
		return "", false
	}
	// The least value of a ? type is nothing, which no other type takes.
	if writer.Kind != reader.Kind {
		return leastValue(writer), true
	}
	switch writer.Kind {
	case Choice:
		return unreadableLetter(writer, reader)
	case List:
		return unreadableList(writer.inner(), reader.inner())
	case Record:
		return unreadableRecord(writer.Fields, reader.Fields)
	}
	return "", false
}

func unreadableLetter(writer Type, reader Type) (string, bool) {
	for k := 0; k < len(writer.Letters); k++ {
		letter := byteAt(writer.Letters, k)
		if !takesLetter(reader, letter) {
			return oneByte(letter), true
		}
	}
	return "", false
}

func unreadableList(writer Type, reader Type) (string, bool) {
	item, found := Unreadable(writer, reader)
	if !found {
		return "", false
	}
	return "[" + item + "]", true
}

func unreadableRecord(writer []Field, reader []Field) (string, bool) {
	for _, field := range reader {
		place := placeOfField(writer, field.Letter)
		if place < 0 || place >= len(writer) {
			if field.Default == "" {
				return leastRecord(writer), true
			}
			continue
		}
		value, found := Unreadable(writer[place].Type, field.Type)
		if found {
			return recordWith(writer, place, value), true
		}
	}
	return "", false
}

// leastValue answers the text of a value of the type with the fewest data.
func leastValue(t Type) string {
	switch t.Kind {
	case Small, Large:
		return "0"
	case String:
		return "\"\""
	case Choice:
		return firstLetter(t)
	case List:
		return "[]"
	case Maybe:
		return "_"
	case Record:
		return leastRecord(t.Fields)
	}
	return ""
}

func leastRecord(fields []Field) string {
	return recordWith(fields, -1, "")
}

// recordWith answers the text of a record with a value in the field at a place, and the least one in each other field.
func recordWith(fields []Field, place int, value string) string {
	text := ""
	mark := "{"
	for k, field := range fields {
		fieldText := value
		if k != place {
			fieldText = leastValue(field.Type)
		}
		text += mark + oneByte(field.Letter) + ":" + fieldText
		mark = ","
	}
	return text + "}"
}
