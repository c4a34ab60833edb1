package rollout_test

import (
	"strings"
	"testing"

	"rollout/api"
	"rollout/rollout"
)

// wantDecode fails the test unless the data get just this answer.
func wantDecode(t *testing.T, schema string, data string, text string, want api.Errno) {
	t.Helper()
	got, errno := rollout.Decode(schema, data)
	if got != text || errno != want {
		t.Errorf("Decode(%.70q, %x) = %q, %d, want %q, %d", schema, data, got, errno, text, want)
	}
}

// wantNoData fails the test unless each of the data is refused.
func wantNoData(t *testing.T, schema string, datas ...string) {
	t.Helper()
	for _, data := range datas {
		wantDecode(t, schema, data, "", api.ErrData)
	}
}

// P5, example 4.
func TestDecodeExamples(t *testing.T) {
	wantNoData(t, "i", "\x80\x00", "\x80", "\x02\x02", "", "\x80\x80\x80\x80\x10")
	wantDecode(t, "[i]", "\x00", "[]", api.OK)
	wantNoData(t, "<ab>", "\x02")
}

// P5: the ends of both ranges of numbers.
func TestDecodeRanges(t *testing.T) {
	wantDecode(t, "i", "\xfe\xff\xff\xff\x0f", "2147483647", api.OK)
	wantDecode(t, "i", "\xff\xff\xff\xff\x0f", "-2147483648", api.OK)
	wantNoData(t, "i", "\x80\x80\x80\x80\x10", "\x81\x80\x80\x80\x10", "\xff\xff\xff\xff\x7f", "\x80\x80\x80\x80\x80\x01")
	wantDecode(t, "l", "\x80\x80\x80\x80\x10", "2147483648", api.OK)
	wantDecode(t, "l", "\x80\x80\xb4\xcc\xd4\xdf\xc6\x03", "1000000000000000", api.OK)
	wantDecode(t, "l", "\xff\xff\xb3\xcc\xd4\xdf\xc6\x03", "-1000000000000000", api.OK)
	wantNoData(t, "l", "\x82\x80\xb4\xcc\xd4\xdf\xc6\x03", "\x81\x80\xb4\xcc\xd4\xdf\xc6\x03", strings.Repeat("\xff", 7)+"\x7f")
}

// P5: no more digits than the number needs, and a last one; nor do very many of them come out as some other number.
func TestDecodeNoNumber(t *testing.T) {
	for _, schema := range []string{"i", "l"} {
		wantNoData(t, schema, "", "\x80", "\xff", "\x80\x00", "\x82\x00", "\xff\x80\x00", "\x80\x80\x80\x00", "\x00\x00", "\x02\x00", "\x80\x01\x00")
		for n := 8; n < 64; n++ {
			for _, last := range []string{"", "\x00", "\x01", "\x02", "\x7f"} {
				wantNoData(t, schema, strings.Repeat("\x80", n)+last, strings.Repeat("\xff", n)+last)
			}
		}
	}
	wantDecode(t, "i", "\x00", "0", api.OK)
	wantDecode(t, "i", "\x01", "-1", api.OK)
	wantDecode(t, "i", "\x02", "1", api.OK)
	wantDecode(t, "i", "\x7f", "-64", api.OK)
}

// P5: strings, with 0 and 60 bytes and each byte that may stand in one.
func TestDecodeStrings(t *testing.T) {
	wantDecode(t, "s", "\x00", `""`, api.OK)
	wantDecode(t, "s", "\x3c"+strings.Repeat("x", 60), quoted(60), api.OK)
	wantNoData(t, "s", "\x3d"+strings.Repeat("x", 61), "\x3c"+strings.Repeat("x", 59), "\x3c"+strings.Repeat("x", 61), "", "\x01", "\x02x", "\x00x", "\xff", "\x80x", "\x81\x00x")
	for b := 0; b < 256; b++ {
		in := string([]byte{byte(b)})
		if b >= 32 && b <= 126 && b != 34 {
			wantDecode(t, "s", "\x01"+in, `"`+in+`"`, api.OK)
		} else {
			wantNoData(t, "s", "\x01"+in)
		}
	}
}

// P5: choices, with up to 8 letters; an open one has no letters more.
func TestDecodeChoices(t *testing.T) {
	for place, letter := range "hgfedcba" {
		wantDecode(t, "<hgfedcba>", string([]byte{byte(place)}), string(letter), api.OK)
	}
	for place := 2; place < 256; place++ {
		wantNoData(t, "<ab>", string([]byte{byte(place)}))
		wantNoData(t, "<ab+>", string([]byte{byte(place)}))
	}
	wantNoData(t, "<hgfedcba+>", "\x08", "", "\x00\x00")
}

// P5: lists, with 0 and 16 values.
func TestDecodeLists(t *testing.T) {
	wantDecode(t, "[i]", "\x10"+strings.Repeat("\x02", 16), listOf(16, "1"), api.OK)
	wantNoData(t, "[i]", "\x11"+strings.Repeat("\x02", 17), "\x10"+strings.Repeat("\x02", 15), "\x10"+strings.Repeat("\x02", 17))
	wantNoData(t, "[i]", "", "\x01", "\x02\x02", "\x01\x02\x02", "\x00\x00", "\x01\x80", "\x80\x00", "\xff")
	wantDecode(t, "[[s]]", "\x02\x00\x01\x01x", `[[],["x"]]`, api.OK)
}

// P5: ? types and records.
func TestDecodeMaybeAndRecords(t *testing.T) {
	wantDecode(t, "?i", "\x00", "_", api.OK)
	wantDecode(t, "?i", "\x01\x0a", "5", api.OK)
	wantNoData(t, "?i", "", "\x01", "\x02\x0a", "\xff\x0a", "\x00\x0a", "\x01\x0a\x0a", "\x81\x00\x0a")
	wantDecode(t, "{b:?{a:i},a:<xy>}", "\x01\x02\x01", "{b:{a:1},a:y}", api.OK)
	wantDecode(t, "{b:?{a:i},a:<xy>}", "\x00\x01", "{b:_,a:y}", api.OK)
	wantDecode(t, "{a:i=4,b:i}", "\x08\x0a", "{a:4,b:5}", api.OK)
	wantNoData(t, "{a:i,b:i=2}", "", "\x02", "\x02\x02\x02")
}

// P5: data of 64 and of 65 bytes, schemas of 60 and of 61.
func TestDecodeLong(t *testing.T) {
	data := "\x02\x3c" + strings.Repeat("x", 60) + "\x01x"
	wantDecode(t, "[s]", data, "["+quoted(60)+`,"x"]`, api.OK)
	wantDecode(t, "[s]", "\x02\x3c"+strings.Repeat("x", 60)+"\x02xx", "", api.ErrLong)
	wantDecode(t, "i", strings.Repeat("\x00", 64), "", api.ErrData)
	wantDecode(t, "i", strings.Repeat("\x00", 65), "", api.ErrLong)
	wantDecode(t, "i", strings.Repeat("\x00", 1<<20), "", api.ErrLong)
	schema := `{a:s="` + strings.Repeat("x", 52) + `"}`
	wantDecode(t, schema, "\x00", `{a:""}`, api.OK)
	wantDecode(t, `{a:s="x`+schema[6:], "\x00", "", api.ErrLong)
}

// P5 and P1: of several errors the one named first.
func TestDecodeFirstError(t *testing.T) {
	long := strings.Repeat("\xff", 65)
	wantDecode(t, strings.Repeat("i", 61), "\xff", "", api.ErrLong)
	wantDecode(t, strings.Repeat("i", 61), long, "", api.ErrLong)
	wantDecode(t, "??i", long, "", api.ErrLong)
	wantDecode(t, "??i", "\x00", "", api.ErrSchema)
	wantDecode(t, "", "", "", api.ErrSchema)
}

// P5: the text of 64 bytes of data has at most MaxText bytes, where each byte of the data gives much text.
func TestDecodeMuchText(t *testing.T) {
	schema := "[[" + strings.Repeat("{a:", 13) + "i" + strings.Repeat("}", 13) + "]]"
	row := "\x10" + strings.Repeat("\x7f", 16)
	text, errno := rollout.Decode(schema, "\x04"+row+row+row+"\x0b"+strings.Repeat("\x7f", 11))
	if errno != api.OK || len(text) < 3000 || len(text) > api.MaxText {
		t.Errorf("Decode(%q, ..) = %d bytes, %d", schema, len(text), errno)
	}
}
