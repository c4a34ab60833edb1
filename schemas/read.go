package schemas

// Read answers the text of what a value of the writer's type is read as; false, if it can't be read as the reader's type.
// The data must be such as Decode takes for the writer's type.
func Read(writer Type, reader Type, data string) (string, bool) {
	if writer.Kind == Maybe {
		return readMaybe(writer.inner(), reader, data)
	}
	if reader.Kind == Maybe {
		return Read(writer, reader.inner(), data)
	}
	if sameValue(writer.Kind, reader.Kind) {
		return Decode(writer, data)
	}
	if writer.Kind != reader.Kind {
		return "", false
	}
	switch writer.Kind {
	case Choice:
		return readChoice(writer, reader, data)
	case List:
		return readList(writer.inner(), reader.inner(), data)
	case Record:
		return readRecord(writer.Fields, reader.Fields, data)
	}
	return "", false
}

// sameValue tells whether each value of the one kind is one of the other too, and is read as itself.
func sameValue(writer int, reader int) bool {
	switch writer {
	case Small:
		return reader == Small || reader == Large
	case Large, String:
		return reader == writer
	}
	return false
}

func readMaybe(value Type, reader Type, data string) (string, bool) {
	if byteAt(data, 0) == 0 {
		return nothingAs(reader)
	}
	return Read(value, reader, span(data, 1, len(data)))
}

func nothingAs(reader Type) (string, bool) {
	if reader.Kind != Maybe {
		return "", false
	}
	return "_", true
}

func readChoice(writer Type, reader Type, data string) (string, bool) {
	place := byteAt(data, 0)
	letter := byteAt(writer.Letters, place)
	if !takesLetter(reader, letter) {
		return "", false
	}
	if placeOf(reader.Letters, letter) < 0 {
		return firstLetter(reader), true
	}
	return oneByte(letter), true
}

// takesLetter tells whether a letter can be read as a choice.
func takesLetter(reader Type, letter int) bool {
	return reader.Open || placeOf(reader.Letters, letter) >= 0
}

func firstLetter(choice Type) string {
	return span(choice.Letters, 0, 1)
}

func readList(writer Type, reader Type, data string) (string, bool) {
	count := byteAt(data, 0)
	text := "["
	from := 1
	for k := 0; k < count; k++ {
		_, next, ok := decodeAt(writer, data, from)
		if !ok {
			return "", false
		}
		item, readable := Read(writer, reader, span(data, from, next))
		if !readable {
			return "", false
		}
		if k > 0 {
			text += ","
		}
		text += item
		from = next
	}
	return text + "]", true
}

func readRecord(writer []Field, reader []Field, data string) (string, bool) {
	parts, ok := fieldData(writer, data)
	if !ok {
		return "", false
	}
	text := ""
	mark := "{"
	for _, field := range reader {
		value, readable := readField(writer, parts, field)
		if !readable {
			return "", false
		}
		text += mark + oneByte(field.Letter) + ":" + value
		mark = ","
	}
	return text + "}", true
}

// fieldData answers the data of each field's value, in the order of the fields.
func fieldData(fields []Field, data string) ([]string, bool) {
	parts := []string{}
	from := 0
	for _, field := range fields {
		_, next, ok := decodeAt(field.Type, data, from)
		if !ok {
			return nil, false
		}
		parts = append(parts, span(data, from, next))
		from = next
	}
	return parts, true
}

// readField answers the text of a reader's field: of what the writer's field of that letter holds, or else of the default.
func readField(writer []Field, parts []string, field Field) (string, bool) {
	place := placeOfField(writer, field.Letter)
	if place < 0 || place >= len(writer) || place >= len(parts) {
		return field.Default, field.Default != ""
	}
	return Read(writer[place].Type, field.Type, parts[place])
}
