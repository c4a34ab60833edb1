package rollout_test

import (
	"math/rand"
	"strings"
	"testing"

	"rollout/api"
	"rollout/rollout"
)

// answers are what the calls answer to a schema and a text or data.
type answers struct {
	check, encoded, decoded, read, fits api.Errno
	data, text, other, misfit           string
}

func ask(schema string, text string) answers {
	var a answers
	a.check = rollout.Check(schema)
	a.data, a.encoded = rollout.Encode(schema, text)
	a.text, a.decoded = rollout.Decode(schema, text)
	a.other, a.read = rollout.Read(schema, "[?{a:?l}]", text)
	a.misfit, a.fits = rollout.Fits(schema, "[?{a:?l}]")
	return a
}

// wantInBounds fails the test unless the answers are such as the document names, with nothing beside an error.
func wantInBounds(t *testing.T, schema string, text string) {
	t.Helper()
	a := ask(schema, text)
	bad := a.encoded != api.OK && a.data != "" || a.decoded != api.OK && a.text != ""
	bad = bad || len(a.data) > api.MaxData || len(a.text) > api.MaxText
	bad = bad || a.check != api.OK && a.check != api.ErrLong && a.check != api.ErrSchema
	// What is wrong with the schema is wrong for each call, but that ErrLong may come from the text.
	bad = bad || a.check != api.OK && a.encoded != a.check && a.encoded != api.ErrLong
	bad = bad || a.check != api.OK && a.decoded != a.check && a.decoded != api.ErrLong
	bad = bad || a.check == api.OK && (a.encoded == api.ErrSchema || a.decoded == api.ErrSchema)
	bad = bad || a.encoded > api.ErrBig || a.decoded > api.ErrData || a.decoded == api.ErrText || a.decoded == api.ErrBig
	if bad {
		t.Errorf("%.70q with %.70q: %+v", schema, text, a)
	}
	// A value that is read as its own type stays itself.
	wantRead(t, schema, schema, text, a.text, a.decoded)
	wantFitsError(t, schema, schema, a.check)
	wantPairInBounds(t, schema, text)
	wantPairInBounds(t, text, schema)
}

// wantPairInBounds does so with the calls that take two schemas.
func wantPairInBounds(t *testing.T, writer string, reader string) {
	t.Helper()
	// ErrLong of either goes ahead of ErrSchema.
	want := api.OK
	for _, errno := range []api.Errno{rollout.Check(writer), rollout.Check(reader)} {
		if want == api.OK || errno == api.ErrLong {
			want = errno
		}
	}
	misfit, fits := rollout.Fits(writer, reader)
	bad := fits != want && (want != api.OK || fits != api.ErrFit) || (misfit != "") != (fits == api.ErrFit)
	for _, data := range []string{writer, reader, "\x00", "\x01\x00"} {
		text, read := rollout.Read(writer, reader, data)
		bad = bad || read != api.OK && text != ""
		bad = bad || want != api.OK && read != want && (read != api.ErrLong || len(data) <= api.MaxData)
		bad = bad || want == api.OK && len(data) <= api.MaxData && read != api.OK && read != api.ErrData && read != api.ErrRead
		bad = bad || want == api.OK && fits == api.OK && read == api.ErrRead
	}
	if bad {
		t.Errorf("%.70q as %.70q: Fits tells %q, %d", writer, reader, misfit, fits)
	}
}

// someSchemas has each kind of type in it, and some texts that are no schemas.
var someSchemas = []string{"i", "l", "s", "<ab>", "<abcdefgh+>", "[i]", "[[s]]", "?i", "?[?s]", "{a:i}", "{a:?[l],b:{c:s,d:<xy+>}=" + `{c:"",d:y}` + "}", "", "??i", "{a:i,a:i}", "{a:i=}"}

// P1: all schemas, texts and data of up to two bytes, of any bytes.
func TestShortStrings(t *testing.T) {
	for _, schema := range someSchemas {
		wantInBounds(t, schema, "")
	}
	for a := 0; a < 256; a++ {
		for b := -1; b < 256; b++ {
			s := string([]byte{byte(a)})
			if b >= 0 {
				s = string([]byte{byte(a), byte(b)})
			}
			wantInBounds(t, s, s)
			wantInBounds(t, "{a:"+s+"}", s)
			for _, schema := range someSchemas {
				wantInBounds(t, schema, s)
			}
		}
	}
}

// P1: strings of all lengths, some of them very long, of the bytes that matter.
func TestLongStrings(t *testing.T) {
	for _, s := range []string{"[", "]", "{a:", "?", "?[", "<", "<a", "i", "s", "-", "1", "9", "\"", "_", ",", "{a:i=", "\x00", "\x01", "\x10", "\x80", "\xff", "é"} {
		for _, n := range []int{3, 8, 15, 16, 17, 20, 29, 30, 31, 59, 60, 61, 64, 65, 1000, 4095, 4096, 4097, 1 << 22} {
			long := strings.Repeat(s, n)
			wantInBounds(t, long, "0")
			wantInBounds(t, long, long)
			for _, schema := range someSchemas {
				wantInBounds(t, schema, long)
				wantInBounds(t, schema, "["+long)
			}
		}
	}
}

// P1: strings that are put together at random of the bytes that matter.
func TestRandomStrings(t *testing.T) {
	m := maker{rand.New(rand.NewSource(4))}
	random := func(bytes string) string {
		made := make([]byte, m.Intn(70))
		for k := range made {
			made[k] = bytes[m.Intn(len(bytes))]
		}
		return string(made)
	}
	for k := 0; k < 50000; k++ {
		wantInBounds(t, random(grammarBytes), random(grammarBytes))
		wantInBounds(t, someSchemas[m.Intn(len(someSchemas))], random("\x00\x00\x01\x01\x02\x10\x3c\x80\xffx"))
		wantInBounds(t, someSchemas[m.Intn(len(someSchemas))], random("[]{}ab:,01-_\"\"x"))
	}
}

// P2: the same answers to the same arguments, whatever was asked before.
func TestSameAnswers(t *testing.T) {
	all := samples(5, 2000)
	first := []answers{}
	for _, c := range all {
		first = append(first, ask(c.schema, c.text), ask(c.schema, c.data))
	}
	for k := len(all) - 1; k >= 0; k-- {
		c := all[k]
		if ask(c.schema, c.data) != first[2*k+1] || ask(c.schema, c.text) != first[2*k] {
			t.Errorf("%q with %q or %x: not the answers of before", c.schema, c.text, c.data)
		}
	}
}
