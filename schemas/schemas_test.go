package schemas

import (
	"reflect"
	"strings"
	"testing"
)

func TestParse(t *testing.T) {
	for _, c := range []struct {
		text string
		want Type
	}{
		{"i", Type{Kind: Small}},
		{"l", Type{Kind: Large}},
		{"s", Type{Kind: String}},
		{"<ba>", Type{Kind: Choice, Letters: "ba"}},
		{"<ba+>", Type{Kind: Choice, Letters: "ba", Open: true}},
		{"[?i]", Type{Kind: List, Inner: []Type{{Kind: Maybe, Inner: []Type{{Kind: Small}}}}}},
		{`{c:[i]=[7],a:?l,b:s=""}`, Type{Kind: Record, Fields: []Field{
			{Letter: 'c', Type: Type{Kind: List, Inner: []Type{{Kind: Small}}}, Default: "[7]"},
			{Letter: 'a', Type: Type{Kind: Maybe, Inner: []Type{{Kind: Large}}}},
			{Letter: 'b', Type: Type{Kind: String}, Default: `""`},
		}}},
	} {
		got, ok := Parse(c.text)
		if !ok || !reflect.DeepEqual(got, c.want) {
			t.Errorf("Parse(%q) = %+v, %t", c.text, got, ok)
		}
	}
}

func TestParseWrong(t *testing.T) {
	for _, text := range []string{"", "x", "ii", "[i", "{a:i,a:i}", strings.Repeat("[", 30) + "i" + strings.Repeat("]", 30), strings.Repeat("[", 1<<20)} {
		got, ok := Parse(text)
		if ok || !reflect.DeepEqual(got, Type{}) {
			t.Errorf("Parse(%.70q) = %+v, %t", text, got, ok)
		}
	}
}

// The data may be more than a record of a topic may have: what is too big is for the caller to say.
func TestEncodeManyData(t *testing.T) {
	list, _ := Parse("[s]")
	data, ok := Encode(list, `["`+strings.Repeat("x", 60)+`","`+strings.Repeat("y", 60)+`"]`)
	if !ok || data != "\x02\x3c"+strings.Repeat("x", 60)+"\x3c"+strings.Repeat("y", 60) {
		t.Errorf("Encode = %q, %t", data, ok)
	}
}

// A type that no schema told has no values.
func TestNoType(t *testing.T) {
	for _, none := range []Type{{}, {Kind: 'x'}, {Kind: Choice}, {Kind: Maybe}, {Kind: List}} {
		for _, s := range []string{"", "0", "x", "[0]", "\x01\x00", "\x01"} {
			data, encoded := Encode(none, s)
			text, decoded := Decode(none, s)
			if encoded || decoded || data != "" || text != "" {
				t.Errorf("%+v with %q: %q, %t and %q, %t", none, s, data, encoded, text, decoded)
			}
		}
	}
}

// Nor is anything read by one or as one; and data that are not a value's do no harm.
func TestReadNoType(t *testing.T) {
	types := []Type{{}, {Kind: 'x'}, {Kind: Choice}, {Kind: Maybe}, {Kind: List}, {Kind: Record}, {Kind: Record, Fields: []Field{{Letter: 'a'}}}, {Kind: Small}, {Kind: String}}
	for _, writer := range types {
		for _, reader := range types {
			Unreadable(writer, reader)
			for _, data := range []string{"", "\x00", "\x01", "\x01\x00", "\xff\xff"} {
				text, ok := Read(writer, reader, data)
				if !ok && text != "" {
					t.Errorf("%+v as %+v with %x: %q", writer, reader, data, text)
				}
			}
		}
	}
}

// The data of an unreadable value are no more bytes than the writer's schema has.
func TestUnreadableIsSmall(t *testing.T) {
	for _, writer := range []string{"i", "?i", "[[?i]]", "<ab>", "{a:i,b:s,c:?[i],d:[?i],e:<xyz+>}"} {
		for _, reader := range []string{"s", "?s", "[[i]]", "<b>", "{z:i}", "{a:s}", "{b:i}", "{c:[i]}", "{d:[i]}", "{e:<xy>}"} {
			w, _ := Parse(writer)
			r, _ := Parse(reader)
			text, found := Unreadable(w, r)
			data, ok := Encode(w, text)
			if found && (!ok || len(data) > len(writer)) {
				t.Errorf("%q as %q: %q with the data %x", writer, reader, text, data)
			}
		}
	}
}
