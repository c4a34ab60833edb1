package rollout_test

import (
	"math/rand"
	"strings"
	"testing"

	"rollout/api"
	"rollout/rollout"
)

// wantRead fails the test unless the data get just this answer.
func wantRead(t *testing.T, writer string, reader string, data string, text string, want api.Errno) {
	t.Helper()
	got, errno := rollout.Read(writer, reader, data)
	if got != text || errno != want {
		t.Errorf("Read(%.70q, %.70q, %x) = %q, %d, want %q, %d", writer, reader, data, got, errno, text, want)
	}
}

// wantReadAs fails the test unless the value with this text is read as that one.
func wantReadAs(t *testing.T, writer string, reader string, text string, want string) {
	t.Helper()
	data, errno := rollout.Encode(writer, text)
	if errno != api.OK {
		t.Fatalf("Encode(%q, %q): %d", writer, text, errno)
	}
	wantRead(t, writer, reader, data, want, api.OK)
	wantDecodable(t, reader, want)
}

// wantDecodable fails the test unless this is the text of a value of the reader's type.
func wantDecodable(t *testing.T, reader string, text string) {
	t.Helper()
	if _, errno := rollout.Encode(reader, text); errno != api.OK && errno != api.ErrBig {
		t.Errorf("%q is no text of %q: %d", text, reader, errno)
	}
}

// wantNotRead fails the test unless each of the values, told by its text, can't be read.
func wantNotRead(t *testing.T, writer string, reader string, texts ...string) {
	t.Helper()
	for _, text := range texts {
		data, errno := rollout.Encode(writer, text)
		if errno != api.OK {
			t.Fatalf("Encode(%q, %q): %d", writer, text, errno)
		}
		wantRead(t, writer, reader, data, "", api.ErrRead)
	}
}

// P6, example 5.
func TestReadExamples(t *testing.T) {
	wantRead(t, "{a:i,b:s}", "{c:[i]=[7],a:?l}", "\x06\x02\x68\x69", "{c:[7],a:3}", api.OK)
	wantRead(t, "?i", "i", "\x00", "", api.ErrRead)
	wantRead(t, "?i", "i", "\x01\x0a", "5", api.OK)
	wantRead(t, "<abc>", "<xb+>", "\x00", "x", api.OK)
	wantRead(t, "<abc>", "<xb+>", "\x01", "b", api.OK)
	wantRead(t, "[i]", "[s]", "\x00", "[]", api.OK)
	wantRead(t, "[i]", "[s]", "\x01\x02", "", api.ErrRead)
}

// P6: numbers and strings; a large number is not read as a small one, small as it may be.
func TestReadNumbersAndStrings(t *testing.T) {
	for _, text := range []string{"0", "-1", "64", "-2147483648", "2147483647"} {
		wantReadAs(t, "i", "i", text, text)
		wantReadAs(t, "i", "l", text, text)
		wantReadAs(t, "l", "l", text, text)
		wantNotRead(t, "l", "i", text)
		wantNotRead(t, "i", "s", text)
		wantNotRead(t, "l", "s", text)
	}
	wantReadAs(t, "l", "l", "-1000000000000000", "-1000000000000000")
	wantReadAs(t, "s", "s", `"{a:1},]_ =?"`, `"{a:1},]_ =?"`)
	wantReadAs(t, "s", "s", quoted(60), quoted(60))
	for _, reader := range []string{"i", "l", "<ax>", "<a+>", "[s]", "{a:s}", `{a:s=""}`} {
		wantNotRead(t, "s", reader, `""`, `"a"`, `"0"`)
	}
}

// P6: of any two kinds of types those that the document does not name can't be read.
func TestReadOtherKinds(t *testing.T) {
	values := []struct{ schema, text string }{{"i", "0"}, {"l", "0"}, {"s", `""`}, {"<a>", "a"}, {"[i]", "[]"}, {"{a:i}", "{a:0}"}}
	for _, w := range values {
		for _, r := range values {
			if w.schema == r.schema || w.schema == "i" && r.schema == "l" {
				wantReadAs(t, w.schema, r.schema, w.text, w.text)
				wantReadAs(t, "?"+w.schema, r.schema, w.text, w.text)
				wantReadAs(t, w.schema, "?"+r.schema, w.text, w.text)
				continue
			}
			wantNotRead(t, w.schema, r.schema, w.text)
			wantNotRead(t, w.schema, "?"+r.schema, w.text)
			wantNotRead(t, "?"+w.schema, r.schema, w.text)
			wantNotRead(t, "?"+w.schema, "?"+r.schema, w.text)
		}
	}
}

// P6: choices go by the letter, not by its place; only the reader's + matters.
func TestReadChoices(t *testing.T) {
	for _, letter := range []string{"a", "b", "c"} {
		wantReadAs(t, "<abc>", "<cab>", letter, letter)
		wantReadAs(t, "<abc+>", "<zcab>", letter, letter)
		wantReadAs(t, "<abc>", "<zcab+>", letter, letter)
		wantReadAs(t, "<abc>", "<zyx+>", letter, "z")
		wantNotRead(t, "<abc>", "<zyx>", letter)
		wantNotRead(t, "<abc+>", "<zyx>", letter)
	}
	wantReadAs(t, "<abcdefgh>", "<h>", "h", "h")
	wantNotRead(t, "<abcdefgh>", "<h>", "a", "b", "g")
	wantReadAs(t, "<abcdefgh>", "<h+>", "g", "h")
}

// P6: lists: each value is asked, and an empty one is read whatever the types are.
func TestReadLists(t *testing.T) {
	wantReadAs(t, "[i]", "[l]", listOf(16, "1"), listOf(16, "1"))
	wantReadAs(t, "[{a:i}]", "[s]", "[]", "[]")
	wantReadAs(t, "[[i]]", "[[s]]", "[[],[]]", "[[],[]]")
	wantNotRead(t, "[[i]]", "[[s]]", "[[],[1]]", "[[1],[]]")
	wantNotRead(t, "[[i]]", "[s]", "[[]]")
	wantReadAs(t, "[<ab>]", "[<a>]", "[a,a]", "[a,a]")
	wantNotRead(t, "[<ab>]", "[<a>]", "[b]", "[a,b]", "[b,a]", "[a,b,a]")
	wantReadAs(t, "[<ab>]", "[<x+>]", "[b,a]", "[x,x]")
	wantReadAs(t, "[s]", "[?s]", `["],[","x"]`, `["],[","x"]`)
}

// P6: ? types on either side, and within others.
func TestReadMaybe(t *testing.T) {
	wantReadAs(t, "?i", "?s", "_", "_")
	wantNotRead(t, "?i", "?s", "1")
	wantReadAs(t, "?i", "?l", "-5", "-5")
	wantReadAs(t, "?i", "l", "-5", "-5")
	wantNotRead(t, "?l", "i", "_", "5")
	wantReadAs(t, "i", "?l", "-5", "-5")
	wantNotRead(t, "?[i]", "[i]", "_")
	wantNotRead(t, "?{a:i}", "{b:i=0}", "_")
	wantNotRead(t, "?<ab>", "<ab+>", "_")
	wantReadAs(t, "[?i]", "[?l]", "[_,1]", "[_,1]")
	wantReadAs(t, "?[?i]", "[i]", "[1]", "[1]")
	wantNotRead(t, "?[?i]", "[i]", "[1,_]")
	wantReadAs(t, "?[i]", "?[?i]", "[1]", "[1]")
	wantReadAs(t, "{a:?i}", "{a:?l=5}", "{a:_}", "{a:_}")
}

// P6: records: by letters, in the reader's order; what the reader lacks is not asked, what the writer lacks is the default.
func TestReadRecords(t *testing.T) {
	wantReadAs(t, "{a:i,b:s,c:<xy>}", "{c:<yx>,a:l,b:s}", `{a:1,b:"z",c:x}`, `{c:x,a:1,b:"z"}`)
	wantReadAs(t, "{a:i,b:s,c:i}", "{c:i}", `{a:1,b:"z",c:2}`, "{c:2}")
	wantReadAs(t, "{b:[s],a:?{x:i,y:s}}", "{a:{y:s}}", `{b:["","q"],a:{x:1,y:"r"}}`, `{a:{y:"r"}}`)
	wantReadAs(t, "{a:i}", "{b:i=1,c:?s=_,d:s=\"\"}", "{a:7}", `{b:1,c:_,d:""}`)
	wantReadAs(t, "{a:i=3}", "{a:i=4}", "{a:7}", "{a:7}")
	wantReadAs(t, "{a:i}", "{b:{c:i=1,d:i}={c:2,d:3}}", "{a:7}", "{b:{c:2,d:3}}")
	wantReadAs(t, "{b:{d:i}}", "{b:{c:i=1,d:i}={c:2,d:3}}", "{b:{d:7}}", "{b:{c:1,d:7}}")
	wantReadAs(t, "[{a:i}]", "[{b:[i]=[1,2],a:i}]", "[{a:1},{a:2}]", "[{b:[1,2],a:1},{b:[1,2],a:2}]")
	wantNotRead(t, "{a:i}", "{b:i}", "{a:7}")
	wantNotRead(t, "{a:i}", "{a:i,b:?i}", "{a:7}")
	wantNotRead(t, "{a:i=3}", "{b:i}", "{a:3}")
	wantNotRead(t, "{b:i=3}", "{b:s}", "{b:3}")
	wantNotRead(t, "{a:i}", "{a:s=\"\",b:i=1}", "{a:7}")
	wantNotRead(t, "{a:?i}", "{a:i=4}", "{a:_}")
	wantNotRead(t, "{b:{c:i}}", "{b:{d:i}={d:1}}", "{b:{c:1}}")
	wantNotRead(t, "{a:{b:[?i]},c:i}", "{c:i,a:{b:[i]}}", "{a:{b:[1,_]},c:0}")
}

// P6: data that are the writer's and nothing behind them, whoever reads.
func TestReadData(t *testing.T) {
	for _, reader := range []string{"i", "l", "s", "?i", "<a>", "[i]", "{a:i}"} {
		for _, data := range []string{"", "\x80", "\x80\x00", "\x02\x02", "\x80\x80\x80\x80\x10"} {
			wantRead(t, "i", reader, data, "", api.ErrData)
		}
		wantRead(t, "[i]", reader, "\x01", "", api.ErrData)
		wantRead(t, "?i", reader, "\x02", "", api.ErrData)
		wantRead(t, "<ab>", reader, "\x02", "", api.ErrData)
	}
	// What the reader does not have must be good data too.
	wantRead(t, "{a:i,b:s}", "{a:i}", "\x02\x01\x1f", "", api.ErrData)
	wantRead(t, "{a:<ab>,b:i}", "{b:i}", "\x02\x02", "", api.ErrData)
}

// P6: the bounds of the schemas and of the data.
func TestReadBounds(t *testing.T) {
	full := `{a:s="` + strings.Repeat("x", 52) + `"}`
	long := `{a:s="` + strings.Repeat("x", 53) + `"}`
	wantRead(t, full, full, "\x00", `{a:""}`, api.OK)
	wantRead(t, "{b:i}", full, "\x00", "{a:"+quoted(52)+"}", api.OK)
	wantRead(t, full, long, "\x00", "", api.ErrLong)
	wantRead(t, long, full, "\x00", "", api.ErrLong)
	data := "\x02\x3c" + strings.Repeat("x", 60) + "\x01x"
	wantRead(t, "[s]", "?[?s]", data, "["+quoted(60)+`,"x"]`, api.OK)
	wantRead(t, "[s]", "[s]", "\x02\x3c"+strings.Repeat("x", 60)+"\x02xx", "", api.ErrLong)
	deep := func(s string) string { return strings.Repeat("[", 29) + s + strings.Repeat("]", 29) }
	wantReadAs(t, deep("i"), deep("l"), deep("5"), deep("5"))
	wantNotRead(t, deep("i"), deep("s"), deep("5"))
	wantReadAs(t, deep("i"), deep("s"), deep(""), deep(""))
}

// P6 and P1: of several errors the one named first.
func TestReadFirstError(t *testing.T) {
	long, much := strings.Repeat("i", 61), strings.Repeat("\xff", 65)
	for _, schema := range []string{"i", "??i", "", long} {
		wantRead(t, schema, long, "\xff", "", api.ErrLong)
		wantRead(t, long, schema, "\xff", "", api.ErrLong)
		wantRead(t, schema, "i", much, "", api.ErrLong)
		wantRead(t, "i", schema, much, "", api.ErrLong)
	}
	for _, schema := range []string{"i", "??i", ""} {
		wantRead(t, schema, "ii", "\xff", "", api.ErrSchema)
		wantRead(t, "ii", schema, "\xff", "", api.ErrSchema)
	}
	wantRead(t, "i", "s", "\xff", "", api.ErrData)
	wantRead(t, "i", "s", "\x02", "", api.ErrRead)
}

// P6: values of all kinds, read as the types of others and as types a little off their own.
func TestReadSamples(t *testing.T) {
	m := maker{rand.New(rand.NewSource(6))}
	read, not := 0, 0
	for _, c := range samples(6, 30000) {
		if len(c.data) > api.MaxData {
			continue
		}
		for k := 0; k < 4; k++ {
			reader := m.reader(c.schema)
			text, ok := modelRead(c.schema, reader, c.text)
			if !ok {
				not++
				wantRead(t, c.schema, reader, c.data, "", api.ErrRead)
				continue
			}
			read++
			wantRead(t, c.schema, reader, c.data, text, api.OK)
			if len(text) <= api.MaxText {
				wantDecodable(t, reader, text)
			}
		}
	}
	if read < 10000 || not < 10000 {
		t.Errorf("%d values read, %d not", read, not)
	}
}

// reader makes a schema a little off a writer's one: mostly such that there is much to read.
func (m maker) reader(writer string) string {
	for {
		reader := m.near(writer, 2)
		if len(reader) <= api.MaxSchema {
			return reader
		}
	}
}

// near makes a schema out of another, each part of it kept or changed.
func (m maker) near(schema string, levels int) string {
	switch {
	case m.Intn(20) == 0:
		return m.schema(levels)
	case schema[0] == '?' && m.Intn(3) == 0:
		return m.near(schema[1:], levels)
	case schema[0] != '?' && m.Intn(6) == 0:
		return "?" + strings.TrimPrefix(m.near(schema, levels), "?")
	}
	switch schema[0] {
	case 'i':
		return []string{"i", "l"}[m.Intn(2)]
	case '<':
		return m.nearChoice(strings.Trim(schema, "<+>"))
	case '[':
		return "[" + m.near(schema[1:len(schema)-1], levels-1) + "]"
	case '?':
		return "?" + strings.TrimPrefix(m.near(schema[1:], levels), "?")
	case '{':
		return m.nearRecord(schema, levels-1)
	}
	return schema
}

func (m maker) nearChoice(letters string) string {
	all := strings.Split(letters, "")
	m.Shuffle(len(all), func(a, b int) { all[a], all[b] = all[b], all[a] })
	letters = strings.Join(all[:1+m.Intn(len(all))], "")
	if m.Intn(3) > 0 {
		letters = strings.Join(all, "")
	}
	more := m.letters(1)
	if len(letters) < api.MaxLetters && !strings.Contains(letters, more) {
		letters = []string{letters, letters + more, more + letters}[m.Intn(3)]
	}
	return "<" + letters + []string{"", "+"}[m.Intn(2)] + ">"
}

func (m maker) nearRecord(schema string, levels int) string {
	fields := []string{}
	for _, field := range modelFields(schema) {
		if m.Intn(4) > 0 {
			fields = append(fields, field.letter+":"+m.near(field.schema, levels))
		}
	}
	more := m.letters(1)
	if len(fields) == 0 || m.Intn(2) == 0 && !strings.Contains(schema, more+":") {
		made := m.schema(0)
		field := more + ":" + made
		if m.Intn(5) > 0 {
			text, _, _ := m.value(made)
			field += "=" + text
		}
		fields = append(fields, field)
	}
	m.Shuffle(len(fields), func(a, b int) { fields[a], fields[b] = fields[b], fields[a] })
	return "{" + strings.Join(fields, ",") + "}"
}
