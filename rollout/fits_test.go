package rollout_test

import (
	"math/rand"
	"strings"
	"testing"

	"rollout/api"
	"rollout/rollout"
)

// wantFits fails the test unless every value can be read.
func wantFits(t *testing.T, writer string, reader string) {
	t.Helper()
	text, errno := rollout.Fits(writer, reader)
	if text != "" || errno != api.OK {
		t.Errorf("Fits(%q, %q) = %q, %d, want OK", writer, reader, text, errno)
	}
}

// wantNoFit fails the test unless the answer is a value of the writer's type that can't be read.
func wantNoFit(t *testing.T, writer string, reader string) {
	t.Helper()
	text, errno := rollout.Fits(writer, reader)
	data, encoded := rollout.Encode(writer, text)
	_, read := rollout.Read(writer, reader, data)
	if errno != api.ErrFit || encoded != api.OK || read != api.ErrRead {
		t.Errorf("Fits(%q, %q) = %q, %d: Encode tells %d, Read %d", writer, reader, text, errno, encoded, read)
	}
}

// wantMisfit fails the test unless the answer is this value, the only one that can't be read.
func wantMisfit(t *testing.T, writer string, reader string, want string) {
	t.Helper()
	wantNoFit(t, writer, reader)
	if text, _ := rollout.Fits(writer, reader); text != want {
		t.Errorf("Fits(%q, %q) = %q, want %q", writer, reader, text, want)
	}
}

// wantFitsError fails the test unless there is this error, and no text with it.
func wantFitsError(t *testing.T, writer string, reader string, want api.Errno) {
	t.Helper()
	text, errno := rollout.Fits(writer, reader)
	if text != "" || errno != want {
		t.Errorf("Fits(%.70q, %.70q) = %q, %d, want %d", writer, reader, text, errno, want)
	}
}

// P7, example 6.
func TestFitsExamples(t *testing.T) {
	wantFits(t, "<ab>", "<abc>")
	wantMisfit(t, "<abc>", "<ab>", "c")
	wantFits(t, "{a:i}", `{a:l,b:s="-"}`)
	wantNoFit(t, `{a:l,b:s="-"}`, "{a:i}")
	wantNoFit(t, "[l]", "[i]")
}

// P7: each kind of type as each.
func TestFitsKinds(t *testing.T) {
	kinds := []string{"i", "l", "s", "<ab>", "[i]", "{a:i}"}
	for _, w := range kinds {
		wantNoFit(t, "?"+w, w)
		for _, r := range kinds {
			if w == r || w == "i" && r == "l" {
				wantFits(t, w, r)
				wantFits(t, w, "?"+r)
				wantFits(t, "?"+w, "?"+r)
				continue
			}
			wantNoFit(t, w, r)
			wantNoFit(t, w, "?"+r)
			wantNoFit(t, "?"+w, "?"+r)
			wantNoFit(t, "?"+w, r)
		}
	}
}

// P7: choices: each letter is asked, the last too; only the reader's + matters.
func TestFitsChoices(t *testing.T) {
	wantFits(t, "<abc>", "<cab>")
	wantFits(t, "<abc+>", "<cab>")
	wantFits(t, "<abc+>", "<x+>")
	wantNoFit(t, "<abc+>", "<x>")
	for _, letter := range strings.Split("abcdefgh", "") {
		wantMisfit(t, "<abcdefgh>", "<"+strings.ReplaceAll("abcdefgh", letter, "")+">", letter)
		wantFits(t, "<abcdefgh>", "<"+strings.ReplaceAll("abcdefgh", letter, "")+"+>")
		wantFits(t, "<"+letter+">", "<abcdefgh>")
		wantNoFit(t, "<"+letter+">", "<xyz>")
	}
}

// P7: what can't be read may stand within, in any field, with others around it.
func TestFitsWithin(t *testing.T) {
	wantNoFit(t, "[[[i]]]", "[[[s]]]")
	wantNoFit(t, "[?i]", "[i]")
	wantFits(t, "[i]", "?[?l]")
	wantMisfit(t, "{x:<abc>}", "{x:<ac>}", "{x:b}")
	wantMisfit(t, "?<ab>", "?<b>", "a")
	wantMisfit(t, "{x:<a>,y:?<bc>,z:<d>}", "{z:<d>,y:?<b>,x:<a>}", "{x:a,y:c,z:d}")
	wantNoFit(t, "{a:i,b:s,c:i}", "{a:i,b:s,c:s}")
	wantNoFit(t, "{a:i,b:s,c:i}", "{c:i,b:i}")
	wantNoFit(t, "{a:{b:[{c:?<xy>}],d:s},e:s}", "{e:s,a:{b:[{c:?<y>}]}}")
}

// P7: fields that one side lacks.
func TestFitsFields(t *testing.T) {
	wantFits(t, "{a:i,b:s}", "{a:i}")
	wantFits(t, "{a:i,b:s}", "{z:i=1}")
	wantFits(t, "{a:{b:i}}", "{a:{c:i=0}}")
	wantFits(t, "{a:i,b:s}", "{b:s,a:l,c:?i=_}")
	wantNoFit(t, "{a:i}", "{a:i,b:?i}")
	wantNoFit(t, "{a:i,b:i=1}", "{a:i,c:i}")
	wantNoFit(t, "{a:i}", `{a:s="x"}`)
	wantNoFit(t, "{b:i,a:?i}", "{a:i=4}")
	wantFits(t, "{a:[{b:i}]}", "{a:[{b:i,c:i=1}]}")
	wantNoFit(t, "{a:[{b:i}]}", "{a:[{b:i,c:i}]}")
}

// P7: schemas of 60 bytes, where a value of the writer's type is large or deep.
func TestFitsLargest(t *testing.T) {
	deep := func(ahead, s, behind string, n int) string {
		return strings.Repeat(ahead, n) + s + strings.Repeat(behind, n)
	}
	for _, c := range [][2]string{
		{deep("[", "i", "]", 29), deep("[", "s", "]", 29)},
		{"?" + deep("[", "i", "]", 29), "?" + deep("[", "s", "]", 29)},
		{deep("?[", "?i", "]", 19), deep("?[", "i", "]", 19)},
		{deep("{a:", "?i", "}", 14), deep("{a:", "i", "}", 14)},
		{"{a:i,b:i,c:i,d:i,e:i,f:i,g:i,h:i,j:i,k:i,m:i,n:i,o:i,p:?s}", "{p:s}"},
		{"{a:[i],b:[i],c:[i],d:[s],e:[s],f:[s],g:[[?i]],h:[[[?i]]]}", "{g:[[?i]],h:[[[i]]]}"},
	} {
		if len(c[0]) > api.MaxSchema || len(c[0]) < api.MaxSchema-3 {
			t.Errorf("%q has %d bytes", c[0], len(c[0]))
		}
		wantNoFit(t, c[0], c[1])
		wantFits(t, c[0], c[0])
	}
}

// P7: ErrLong and ErrSchema, in this order.
func TestFitsErrors(t *testing.T) {
	long := strings.Repeat("i", 61)
	full := `{a:s="` + strings.Repeat("x", 52) + `"}`
	wantFits(t, full, full)
	for _, schema := range []string{"i", "x", "", long, full} {
		wantFitsError(t, schema, long, api.ErrLong)
		wantFitsError(t, long, schema, api.ErrLong)
	}
	for _, schema := range []string{"i", "x", "", full} {
		wantFitsError(t, schema, "ii", api.ErrSchema)
		wantFitsError(t, "ii", schema, api.ErrSchema)
		wantFitsError(t, schema, "", api.ErrSchema)
		wantFitsError(t, "", schema, api.ErrSchema)
	}
}

// wantFitsAsModel fails the test unless the answer is what reading a value of every sort tells.
func wantFitsAsModel(t *testing.T, writer string, reader string, values []string) bool {
	t.Helper()
	for _, text := range values {
		if _, ok := modelRead(writer, reader, text); !ok {
			wantNoFit(t, writer, reader)
			return false
		}
	}
	wantFits(t, writer, reader)
	return true
}

// P7: each two of the short schemas.
func TestFitsShort(t *testing.T) {
	short := schemasUpTo(7)
	fit, not := 0, 0
	for writer := range short {
		values := modelValues(writer)
		for reader := range short {
			if wantFitsAsModel(t, writer, reader, values) {
				fit++
			} else {
				not++
			}
		}
	}
	if fit < 1000 || not < 1000 {
		t.Errorf("%d fit, %d do not", fit, not)
	}
}

// P7: longer schemas, and others a little off them.
func TestFitsSamples(t *testing.T) {
	m := maker{rand.New(rand.NewSource(7))}
	fit, not := 0, 0
	for _, c := range samples(7, 10000) {
		values := modelValues(c.schema)
		for k := 0; values != nil && k < 4; k++ {
			if wantFitsAsModel(t, c.schema, m.reader(c.schema), values) {
				fit++
			} else {
				not++
			}
		}
		wantFits(t, c.schema, c.schema)
	}
	if fit < 5000 || not < 5000 {
		t.Errorf("%d fit, %d do not", fit, not)
	}
}
