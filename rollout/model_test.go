package rollout_test

import "strings"

// The reading of values by the words of the document, on texts alone: beside the program, which goes by data.

// modelField is a field of a record's schema.
type modelField struct {
	letter, schema, text string
	hasDefault           bool
}

// modelRead tells what the value with this text is read as, or false.
func modelRead(writer string, reader string, text string) (string, bool) {
	if writer[0] == '?' {
		if text == "_" {
			return "_", reader[0] == '?'
		}
		return modelRead(writer[1:], strings.TrimPrefix(reader, "?"), text)
	}
	switch {
	case reader[0] == '?':
		return modelRead(writer, reader[1:], text)
	case writer == reader && len(writer) == 1, writer == "i" && reader == "l":
		return text, true
	case writer[0] == '<' && reader[0] == '<':
		letters := strings.Trim(reader, "<+>")
		if strings.Contains(letters, text) {
			return text, true
		}
		return letters[:1], strings.Contains(reader, "+")
	case writer[0] == '[' && reader[0] == '[':
		texts := []string{}
		for _, item := range modelParts(text, ',') {
			got, ok := modelRead(writer[1:len(writer)-1], reader[1:len(reader)-1], item)
			if !ok {
				return "", false
			}
			texts = append(texts, got)
		}
		return "[" + strings.Join(texts, ",") + "]", true
	case writer[0] == '{' && reader[0] == '{':
		return modelReadRecord(writer, reader, text)
	}
	return "", false
}

func modelReadRecord(writer string, reader string, text string) (string, bool) {
	values := map[string]string{}
	for _, field := range modelParts(text, ',') {
		values[field[:1]] = field[2:]
	}
	schemas := map[string]string{}
	for _, field := range modelFields(writer) {
		schemas[field.letter] = field.schema
	}
	texts := []string{}
	for _, field := range modelFields(reader) {
		got, ok := field.text, field.hasDefault
		if schemas[field.letter] != "" {
			got, ok = modelRead(schemas[field.letter], field.schema, values[field.letter])
		}
		if !ok {
			return "", false
		}
		texts = append(texts, field.letter+":"+got)
	}
	return "{" + strings.Join(texts, ",") + "}", true
}

// modelParts tells what stands in a list or a record, between the marks that are in no string and in nothing within.
func modelParts(s string, mark byte) []string {
	if len(s) == 2 {
		return nil
	}
	return modelSplit(s[1:len(s)-1], mark)
}

func modelSplit(s string, mark byte) []string {
	parts := []string{""}
	depth, quoted := 0, false
	for k := 0; k < len(s); k++ {
		quoted = quoted != (s[k] == '"')
		if !quoted && strings.IndexByte("[{", s[k]) >= 0 {
			depth++
		}
		if !quoted && strings.IndexByte("]}", s[k]) >= 0 {
			depth--
		}
		if s[k] == mark && depth == 0 && !quoted {
			parts = append(parts, "")
			continue
		}
		parts[len(parts)-1] += s[k : k+1]
	}
	return parts
}

func modelFields(schema string) []modelField {
	fields := []modelField{}
	for _, part := range modelParts(schema, ',') {
		sides := append(modelSplit(part[2:], '='), "")
		fields = append(fields, modelField{part[:1], sides[0], sides[1], len(sides) > 2})
	}
	return fields
}

// modelValues tells texts of values of the type, so that if one can't be read as some type, one of these can't: whether it can hangs on letters, on nothing or something, and on lists with or without anything, but on no number or string.
// It gives up with nil where there are too many.
func modelValues(schema string) []string {
	switch schema[0] {
	case 'i', 'l':
		return []string{"0"}
	case 's':
		return []string{`""`}
	case '<':
		return strings.Split(strings.Trim(schema, "<+>"), "")
	case '[':
		return modelWrap("[]", "[", modelValues(schema[1:len(schema)-1]), "]")
	case '?':
		return modelWrap("_", "", modelValues(schema[1:]), "")
	}
	texts := []string{""}
	for _, field := range modelFields(schema) {
		longer := []string{}
		for _, value := range modelValues(field.schema) {
			longer = append(longer, modelWrap("", "", texts, ","+field.letter+":"+value)[1:]...)
		}
		if len(longer) == 0 || len(longer) > 2000 {
			return nil
		}
		texts = longer
	}
	for k := range texts {
		texts[k] = "{" + texts[k][1:] + "}"
	}
	return texts
}

// modelWrap tells a first text, and the others with something ahead of each and behind it.
func modelWrap(first string, ahead string, texts []string, behind string) []string {
	if texts == nil {
		return nil
	}
	all := []string{first}
	for _, text := range texts {
		all = append(all, ahead+text+behind)
	}
	return all
}
