package rollout_test

import (
	"strings"
	"testing"

	"rollout/api"
	"rollout/rollout"
)

// wantCheck fails the test unless each of the schemas gets this answer.
func wantCheck(t *testing.T, want api.Errno, schemas ...string) {
	t.Helper()
	for _, s := range schemas {
		if got := rollout.Check(s); got != want {
			t.Errorf("Check(%.70q) of %d bytes = %d, want %d", s, len(s), got, want)
		}
	}
}

// P3, example 1.
func TestCheckExamples(t *testing.T) {
	wantCheck(t, api.OK, "i", "[?<ab+>]", `{a:i=-5,b:[s]=["x"],c:?l=_}`)
	wantCheck(t, api.ErrSchema, "", "??i", "<aa>", "<>", "{}", "{a:i,a:l}", "{a:i=x}", "{a:i=2147483648}", "[i", "ii")
}

// P3: each kind of type, as it should be and not quite.
func TestCheckKinds(t *testing.T) {
	wantCheck(t, api.OK, "i", "l", "s", "<z>", "<za+>", "[l]", "[[[s]]]", "?i", "?[?{a:?s}]", "[?i]", "{z:i}", "{b:s,a:l}", "{a:{a:{a:i}}}")
	wantCheck(t, api.ErrSchema, "I", "n", "0", "\"\"", "_", "i\x00", "\x00", "\xff", "é", " i", "i ", "[i ]", "i,", "?", "???i", "[??i]", "?<", "]", ">", "}")
	wantCheck(t, api.ErrSchema, "<", "<a", "<+>", "<a+", "<a++>", "<+a>", "<a+b>", "<a,b>", "<A>", "<`>", "<{>", "<1>", "<abca>")
	wantCheck(t, api.ErrSchema, "[", "[]", "[i,i]", "[i]]", "[ii]", "[i}", "[]i")
	wantCheck(t, api.ErrSchema, "{", "{a", "{a:", "{a:}", "{a:i", "{a:i,", "{a:i,}", "{,a:i}", "{a:i,,b:i}", "{a:i b:i}", "{a=i}", "{a:i]", "{ab:i}", "{:i}", "{1:i}", "{A:i}", "{a:i,b:s,a:i}", "{a:?}")
}

// P3: a record may have the letters of another one within it, and all 26 letters are letters.
func TestCheckLetters(t *testing.T) {
	for c := 'a'; c <= 'z'; c++ {
		wantCheck(t, api.OK, "<"+string(c)+">", "{"+string(c)+":{"+string(c)+":i}}")
	}
	wantCheck(t, api.OK, "{a:{b:i},b:{a:i}}")
	wantCheck(t, api.ErrSchema, "{a:{b:i,b:i}}")
}

// P3: defaults.
func TestCheckDefaults(t *testing.T) {
	wantCheck(t, api.OK, "{a:i=0}", "{a:i=-2147483648}", "{a:i=2147483647}", "{a:l=1000000000000000}", "{a:l=-1000000000000000}",
		`{a:s=""}`, `{a:s=",}]_=? "}`, "{a:<xy+>=y}", "{a:[i]=[]}", "{a:[i]=[1,2]}", "{a:?i=_}", "{a:?i=7}", "{a:?[?i]=[_,1]}",
		"{a:{b:i}={b:1}}", "{a:{b:i=1}={b:2}}", `{a:{b:i=1,c:s}={b:2,c:""}}`, "{a:i=1,b:i=2}", "{a:i=1,b:i}")
	wantCheck(t, api.ErrSchema, "{a:i=}", "{a:i=-}", "{a:i=-0}", "{a:i=00}", "{a:i=01}", "{a:i=1.}", "{a:i=1x}", "{a:i=_}", "{a:i=-2147483649}",
		"{a:l=1000000000000001}", "{a:l=-1000000000000001}", "{a:l=99999999999999999999999999999999999999}", `{a:s=x}`, `{a:s="}`, `{a:s="""}`, "{a:s=\"\x1f\"}", "{a:s=\"\x7f\"}",
		"{a:<xy+>=z}", "{a:<xy>=xy}", "{a:[i]=[}", "{a:[i]=[1,]}", "{a:[i]=1}", "{a:?i=}", "{a:?i=__}", "{a:?i=?}",
		"{a:{b:i=1}={}}", "{a:{b:i,c:i}={c:1,b:1}}", "{a:i=1=2}", "{a:i=1=}", "i=1", "[i=1]", "?i=1")
}

// P3: the bounds: 8 letters, 16 items, 60 bytes.
func TestCheckBounds(t *testing.T) {
	wantCheck(t, api.OK, "<abcdefgh>", "<abcdefgh+>")
	wantCheck(t, api.ErrSchema, "<abcdefghi>", "<abcdefghi+>")
	wantCheck(t, api.OK, "{a:[i]=["+strings.Repeat("1,", 15)+"1]}")
	wantCheck(t, api.ErrSchema, "{a:[i]=["+strings.Repeat("1,", 16)+"1]}")
	deep := func(n int) string { return strings.Repeat("[", n) + "i" + strings.Repeat("]", n) }
	for _, s := range []string{`{a:s="` + strings.Repeat("x", 52) + `"}`, "?" + deep(29), "{a:?" + deep(27) + "}"} {
		if len(s) != api.MaxSchema {
			t.Fatalf("%q has %d bytes", s, len(s))
		}
		wantCheck(t, api.OK, s)
		wantCheck(t, api.ErrSchema, s[:59], s[:58]+"xx")
		wantCheck(t, api.ErrLong, s+"x", s+s)
	}
	wantCheck(t, api.ErrSchema, strings.Repeat("[", 60), strings.Repeat("x", 60), strings.Repeat("\x00", 60))
	wantCheck(t, api.ErrLong, `{a:s="`+strings.Repeat("x", 53)+`"}`, "["+deep(29)+"]", strings.Repeat("[", 61), strings.Repeat("[", 1<<20))
}

// P3: all schemas of a few bytes, told by the grammar, are schemas; what is one byte off is one just if the grammar tells it too.
func TestCheckNeighbours(t *testing.T) {
	const longest = 10
	known := schemasUpTo(longest)
	if len(known) < 1000 {
		t.Fatalf("only %d schemas", len(known))
	}
	tried := map[string]bool{}
	for s := range known {
		wantCheck(t, api.OK, s)
		for at := 0; at <= len(s); at++ {
			rest := s[at:]
			for k := 0; k < len(grammarBytes); k++ {
				tried[s[:at]+grammarBytes[k:k+1]+rest] = true
				if rest != "" {
					tried[s[:at]+grammarBytes[k:k+1]+rest[1:]] = true
				}
			}
			if rest != "" {
				tried[s[:at]+rest[1:]] = true
			}
		}
	}
	for s := range tried {
		if len(s) <= longest && !known[s] {
			wantCheck(t, api.ErrSchema, s)
		}
	}
}
