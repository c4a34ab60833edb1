package rollout_test

import (
	"encoding/binary"
	"math/rand"
	"strconv"
	"strings"
	"testing"

	"rollout/api"
	"rollout/rollout"
)

// sample is a value of some schema's type, made beside the program.
type sample struct{ schema, text, data string }

// maker makes samples, always the same ones.
type maker struct{ *rand.Rand }

// schema makes a type with at most so many levels.
func (m maker) schema(levels int) string {
	kind := m.Intn(7)
	if levels == 0 {
		kind = m.Intn(4)
	}
	switch kind {
	case 0:
		return "i"
	case 1:
		return "l"
	case 2:
		return "s"
	case 3:
		return "<" + m.letters(1+m.Intn(8)) + []string{"", "+"}[m.Intn(2)] + ">"
	case 4:
		return "[" + m.schema(levels-1) + "]"
	case 5:
		return "?" + strings.TrimPrefix(m.schema(levels-1), "?")
	}
	fields := []string{}
	for _, letter := range m.letters(1 + m.Intn(4)) {
		fields = append(fields, string(letter)+":"+m.schema(levels-1))
	}
	return "{" + strings.Join(fields, ",") + "}"
}

func (m maker) letters(n int) string {
	letters := ""
	for _, k := range m.Perm(26)[:n] {
		letters += string(rune('a' + k))
	}
	return letters
}

// value makes a value of the type that begins the schema (one without defaults), and tells what of the schema is left.
func (m maker) value(schema string) (text string, data string, rest string) {
	rest = schema[1:]
	switch schema[0] {
	case 'i':
		text, data = m.number(31)
	case 'l':
		text, data = m.number(49)
	case 's':
		text, data = m.str()
	case '<':
		letters, behind, _ := strings.Cut(rest, ">")
		rest = behind
		letters = strings.TrimSuffix(letters, "+")
		place := m.Intn(len(letters))
		text, data = letters[place:place+1], string([]byte{byte(place)})
	case '[':
		texts := []string{}
		_, _, behind := m.value(rest)
		for count := m.size(api.MaxItems); count > 0; count-- {
			itemText, itemData, _ := m.value(rest)
			texts = append(texts, itemText)
			data += itemData
		}
		text, data = "["+strings.Join(texts, ",")+"]", string([]byte{byte(len(texts))})+data
		rest = behind[1:]
	case '?':
		text, data, rest = m.value(rest)
		data = "\x01" + data
		if m.Intn(3) == 0 {
			text, data = "_", "\x00"
		}
	case '{':
		text = "{"
		for behind := ","; behind == ","; rest = rest[1:] {
			letter := rest[:1]
			fieldText, fieldData, left := m.value(rest[2:])
			text += letter + ":" + fieldText
			data += fieldData
			rest, behind = left, left[:1]
			text += behind
		}
	}
	return text, data, rest
}

// number makes one below 2 to the power of bits; encoding/binary lays it down as the document asks.
func (m maker) number(bits int) (string, string) {
	n := m.Int63() >> (63 - m.Intn(bits+1))
	if m.Intn(2) == 0 {
		n = -n
	}
	return strconv.FormatInt(n, 10), string(binary.AppendVarint(nil, n))
}

// size makes a small one mostly, and now and then any one up to the bound.
func (m maker) size(bound int) int {
	if m.Intn(4) > 0 {
		bound = 4
	}
	return m.Intn(bound + 1)
}

func (m maker) str() (string, string) {
	bytes := make([]byte, m.size(api.MaxString))
	for k := range bytes {
		bytes[k] = byte(32 + m.Intn(95))
		if bytes[k] == '"' {
			bytes[k] = ' '
		}
	}
	return `"` + string(bytes) + `"`, string([]byte{byte(len(bytes))}) + string(bytes)
}

// samples makes many of them, with schemas that are not too long and data of any length.
func samples(seed int64, n int) []sample {
	m := maker{rand.New(rand.NewSource(seed))}
	all := []sample{}
	for len(all) < n {
		schema := m.schema(m.Intn(4))
		if len(schema) > api.MaxSchema {
			continue
		}
		text, data, _ := m.value(schema)
		if len(text) <= api.MaxText {
			all = append(all, sample{schema, text, data})
		}
	}
	return all
}

// P3, P4, P5: values of all kinds, by way of their texts and of their data.
func TestSamples(t *testing.T) {
	big := 0
	for _, c := range samples(1, 20000) {
		wantCheck(t, api.OK, c.schema)
		if len(c.data) > api.MaxData {
			big++
			wantEncode(t, c.schema, c.text, "", api.ErrBig)
			wantDecode(t, c.schema, c.data, "", api.ErrLong)
			continue
		}
		wantEncode(t, c.schema, c.text, c.data, api.OK)
		wantDecode(t, c.schema, c.data, c.text, api.OK)
	}
	if big < 100 || big > 10000 {
		t.Errorf("%d samples with too many data", big)
	}
}

// P3: a value's text may stand as a default, and nothing else.
func TestSampleDefaults(t *testing.T) {
	m := maker{rand.New(rand.NewSource(2))}
	good, bad := 0, 0
	for _, c := range samples(2, 10000) {
		texts := []string{c.text, m.off(c.text), m.off(c.text), m.off(c.text)}
		for _, text := range texts {
			field := "x:" + c.schema + "=" + text
			if len(field) > api.MaxSchema-len("{,y:i}") {
				continue
			}
			want := api.OK
			good++
			if _, errno := rollout.Encode(c.schema, text); errno == api.ErrText {
				want = api.ErrSchema
				good--
				bad++
			}
			wantCheck(t, want, "{"+field+"}", "{"+field+",y:i}", "{y:i,"+field+"}")
		}
	}
	if good < 1000 || bad < 1000 {
		t.Errorf("%d texts that may stand there, %d that may not", good, bad)
	}
}

// P4, P5: a value has one text and one data only: what is a little off either is another value's, or no value's.
func TestSampleNeighbours(t *testing.T) {
	m := maker{rand.New(rand.NewSource(3))}
	for _, c := range samples(3, 3000) {
		if len(c.data) > api.MaxData {
			continue
		}
		for k := 0; k < 30; k++ {
			text := m.off(c.text)
			if data, errno := rollout.Encode(c.schema, text); errno == api.OK {
				wantDecode(t, c.schema, data, text, api.OK)
			}
			data := m.off(c.data)
			if text, errno := rollout.Decode(c.schema, data); errno == api.OK {
				wantEncode(t, c.schema, text, data, api.OK)
			}
		}
		for k := range c.data {
			wantNoData(t, c.schema, c.data[:k])
		}
	}
}

// off changes, takes out or puts in a byte.
func (m maker) off(s string) string {
	at := m.Intn(len(s))
	b := s[m.Intn(len(s))]
	if m.Intn(2) == 0 {
		b = byte(m.Intn(256))
	}
	return s[:at] + []string{"", string([]byte{b}), string([]byte{b, s[at]})}[m.Intn(3)] + s[at+1:]
}
