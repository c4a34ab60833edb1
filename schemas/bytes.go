package schemas

// byteAt answers the byte at a place of a text or of data, or -1 (which is no byte) where the place is outside.
func byteAt(text string, at int) int {
	if at < 0 || at >= len(text) {
		return -1
	}
	return int(text[at])
}

// span answers the bytes from one place up to another, or nothing where there is no such span.
func span(text string, from int, to int) string {
	if from < 0 || from > to || to > len(text) {
		return ""
	}
	return text[from:to]
}

// oneByte goes by way of a slice, since a number turned into a string directly would become UTF-8.
func oneByte(b int) string {
	return string([]byte{byte(b)})
}

// placeOf answers the place of a letter among others, or -1.
func placeOf(letters string, letter int) int {
	for place := 0; place < len(letters); place++ {
		if int(letters[place]) == letter {
			return place
		}
	}
	return -1
}

func isLetter(b int) bool {
	return b >= 'a' && b <= 'z'
}

func isDigit(b int) bool {
	return b >= '0' && b <= '9'
}

// inString tells whether a byte may stand in a string.
func inString(b int) bool {
	return b >= 32 && b <= 126 && b != '"'
}
