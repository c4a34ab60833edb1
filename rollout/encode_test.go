package rollout_test

import (
	"strings"
	"testing"

	"rollout/api"
	"rollout/rollout"
)

// wantEncode fails the test unless the text gets just this answer.
func wantEncode(t *testing.T, schema string, text string, data string, want api.Errno) {
	t.Helper()
	got, errno := rollout.Encode(schema, text)
	if got != data || errno != want {
		t.Errorf("Encode(%.70q, %.70q) = %x, %d, want %x, %d", schema, text, got, errno, data, want)
	}
}

// wantNoText fails the test unless each of the texts is refused.
func wantNoText(t *testing.T, schema string, texts ...string) {
	t.Helper()
	for _, text := range texts {
		wantEncode(t, schema, text, "", api.ErrText)
	}
}

// quoted tells the text of a string of n bytes.
func quoted(n int) string {
	return `"` + strings.Repeat("x", n) + `"`
}

// listOf tells the text of a list with the same text n times in it.
func listOf(n int, text string) string {
	return "[" + strings.TrimSuffix(strings.Repeat(text+",", n), ",") + "]"
}

// P4, examples 2 and 3.
func TestEncodeExamples(t *testing.T) {
	wantEncode(t, "i", "-1", "\x01", api.OK)
	wantEncode(t, "i", "64", "\x80\x01", api.OK)
	wantEncode(t, "l", "1000", "\xd0\x0f", api.OK)
	wantEncode(t, "l", "2147483648", "\x80\x80\x80\x80\x10", api.OK)
	wantNoText(t, "i", "2147483648", "-0", "007")
	wantEncode(t, "{a:i,b:s}", `{a:3,b:"hi"}`, "\x06\x02hi", api.OK)
	wantEncode(t, "<abc+>", "c", "\x02", api.OK)
	wantEncode(t, "[?i]", "[_,5]", "\x02\x00\x01\x0a", api.OK)
}

// P4: the ends of both ranges of numbers.
func TestEncodeRanges(t *testing.T) {
	wantEncode(t, "i", "2147483647", "\xfe\xff\xff\xff\x0f", api.OK)
	wantEncode(t, "i", "-2147483648", "\xff\xff\xff\xff\x0f", api.OK)
	wantNoText(t, "i", "2147483648", "-2147483649", "4294967296", "1000000000000000")
	wantEncode(t, "l", "2147483648", "\x80\x80\x80\x80\x10", api.OK)
	wantEncode(t, "l", "-2147483649", "\x81\x80\x80\x80\x10", api.OK)
	wantEncode(t, "l", "1000000000000000", "\x80\x80\xb4\xcc\xd4\xdf\xc6\x03", api.OK)
	wantEncode(t, "l", "-1000000000000000", "\xff\xff\xb3\xcc\xd4\xdf\xc6\x03", api.OK)
	wantNoText(t, "l", "1000000000000001", "-1000000000000001", "9999999999999999", "10000000000000000",
		"18446744073709551616", "18446744073709551617", "-18446744073709551617", strings.Repeat("9", 4096))
}

// P4: texts that are not those of a number.
func TestEncodeNoNumber(t *testing.T) {
	for _, schema := range []string{"i", "l"} {
		wantNoText(t, schema, "", "-", "--1", "-0", "00", "01", "-01", "+1", "1+", "1-", " 1", "1 ", "1.0", "1e3", "0x1", "_", "a", `"1"`, "[1]", "1,", "1\x00", "/", ":", "1:")
		wantEncode(t, schema, "0", "\x00", api.OK)
		wantEncode(t, schema, "10", "\x14", api.OK)
	}
}

// P4: strings, with 0 and 60 bytes and each byte that may stand in one.
func TestEncodeStrings(t *testing.T) {
	wantEncode(t, "s", `""`, "\x00", api.OK)
	wantEncode(t, "s", quoted(60), "\x3c"+strings.Repeat("x", 60), api.OK)
	wantNoText(t, "s", quoted(61), quoted(4094))
	for b := 0; b < 256; b++ {
		in := string([]byte{byte(b)})
		if b >= 32 && b <= 126 && b != 34 {
			wantEncode(t, "s", `"`+in+`"`, "\x01"+in, api.OK)
		} else {
			wantNoText(t, "s", `"`+in+`"`)
		}
	}
	wantNoText(t, "s", "", `"`, "x", `"x`, `x"`, `"x"y`, `"x""`, `"x"y"`, ` "x"`, `"x" `, `'x'`, `"é"`, "_")
}

// P4: choices, with up to 8 letters; an open one has no letters more.
func TestEncodeChoices(t *testing.T) {
	for place, letter := range "hgfedcba" {
		wantEncode(t, "<hgfedcba>", string(letter), string([]byte{byte(place)}), api.OK)
		wantEncode(t, "<hgfedcba+>", string(letter), string([]byte{byte(place)}), api.OK)
	}
	wantNoText(t, "<ab+>", "", "c", "+", "ab", "A", "a+", "<", ">", "_", `"a"`, "0")
}

// P4: lists, with 0 and 16 values.
func TestEncodeLists(t *testing.T) {
	wantEncode(t, "[i]", "[]", "\x00", api.OK)
	wantEncode(t, "[i]", "[5]", "\x01\x0a", api.OK)
	wantEncode(t, "[[s]]", `[[],["x"]]`, "\x02\x00\x01\x01x", api.OK)
	wantEncode(t, "[i]", listOf(16, "1"), "\x10"+strings.Repeat("\x02", 16), api.OK)
	wantNoText(t, "[i]", listOf(17, "1"), listOf(1000, "1"))
	wantNoText(t, "[i]", "", "[", "]", "[1", "1]", "[1,]", "[,1]", "[,]", "[1,,2]", "[1;2]", "[1 ,2]", "[ ]", "[]]", "[][]", "[1]]", "[1],", "[_]", "[[]]", "{}", "_")
}

// P4: ? types.
func TestEncodeMaybe(t *testing.T) {
	wantEncode(t, "?i", "_", "\x00", api.OK)
	wantEncode(t, "?i", "5", "\x01\x0a", api.OK)
	wantEncode(t, "?[?s]", `[_,""]`, "\x01\x02\x00\x01\x00", api.OK)
	wantNoText(t, "?i", "", "__", "_5", "5_", "?5", "?", `"_"`)
	wantNoText(t, "?s", `_""`, "x")
}

// P4: a record's text has all its fields, in the schema's order.
func TestEncodeRecords(t *testing.T) {
	wantEncode(t, "{b:?{a:i},a:<xy>}", "{b:{a:1},a:y}", "\x01\x02\x01", api.OK)
	wantEncode(t, "{a:i=4,b:i}", "{a:4,b:5}", "\x08\x0a", api.OK)
	wantNoText(t, "{a:i,b:i=2}", "", "{", "{}", "}", "{a:1}", "{b:1}", "{b:1,a:1}", "{a:1,b:2", "{a:1,b:2}}", "{a:1,b:2,}", "{a:1,b:2,c:3}", "{a:1,a:2}", "{a:1 ,b:2}", "{a:1, b:2}", "{a:1b:2}", "{a1,b:2}", "{a:,b:2}", "{A:1,b:2}", "{,a:1,b:2}", "{a:1,b:}", "{a:1,b=2}", "[a:1,b:2]", "1,2")
}

// P4: data of 64 and of 65 bytes; a text that is wrong is wrong however many data it would have.
func TestEncodeBig(t *testing.T) {
	full := "[" + quoted(60) + `,"x"]`
	wantEncode(t, "[s]", full, "\x02\x3c"+strings.Repeat("x", 60)+"\x01x", api.OK)
	wantEncode(t, "[s]", "["+quoted(60)+`,"xx"]`, "", api.ErrBig)
	wantEncode(t, "?[s]", full, "", api.ErrBig)
	wantEncode(t, "{a:s,b:[i]}", "{a:"+quoted(60)+",b:[1,1]}", "\x3c"+strings.Repeat("x", 60)+"\x02\x02\x02", api.OK)
	wantEncode(t, "{a:s,b:[i]}", "{a:"+quoted(60)+",b:[1,1,1]}", "", api.ErrBig)
	wantNoText(t, "[s]", listOf(16, quoted(60))+"]", listOf(17, quoted(60)), listOf(15, quoted(60))+",", strings.TrimSuffix(listOf(16, quoted(60)), "]"))
	wantEncode(t, "[s]", listOf(16, quoted(60)), "", api.ErrBig)
}

// P4: texts of 4096 and of 4097 bytes, schemas of 60 and of 61.
func TestEncodeLong(t *testing.T) {
	row := listOf(16, quoted(60)) + ","
	lists := func(k int) string { return "[" + strings.Repeat(row, 4) + listOf(1, quoted(k)) + "]" }
	if len(lists(50)) != api.MaxText {
		t.Fatalf("a text of %d bytes", len(lists(50)))
	}
	wantEncode(t, "[[s]]", lists(50), "", api.ErrBig)
	wantEncode(t, "[[s]]", lists(50)[:4095]+" ", "", api.ErrText)
	wantEncode(t, "[[s]]", lists(51), "", api.ErrLong)
	wantEncode(t, "i", strings.Repeat("1", 4096), "", api.ErrText)
	wantEncode(t, "i", strings.Repeat("1", 4097), "", api.ErrLong)
	wantEncode(t, "i", strings.Repeat("1", 1<<20), "", api.ErrLong)
	schema := `{a:s="` + strings.Repeat("x", 52) + `"}`
	wantEncode(t, schema, `{a:""}`, "\x00", api.OK)
	wantEncode(t, `{a:s="x`+schema[6:], `{a:""}`, "", api.ErrLong)
}

// P4 and P1: of several errors the one named first.
func TestEncodeFirstError(t *testing.T) {
	long := strings.Repeat("x", 4097)
	wantEncode(t, strings.Repeat("i", 61), "x", "", api.ErrLong)
	wantEncode(t, strings.Repeat("i", 61), long, "", api.ErrLong)
	wantEncode(t, "??i", long, "", api.ErrLong)
	wantEncode(t, "??i", "1", "", api.ErrSchema)
	wantEncode(t, "", "", "", api.ErrSchema)
	wantEncode(t, "[s]", listOf(2, quoted(60))+" ", "", api.ErrText)
}
