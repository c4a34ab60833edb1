package rollout_test

import "strings"

// grammarBytes are the bytes that schemasUpTo makes schemas of.
const grammarBytes = `isa<>+[]?{}:,=0-1"_`

// grammarLetters are the letters among them.
const grammarLetters = "isa"

// schemasUpTo tells all schemas of at most so many of these bytes, by the words of the document and without a parser.
func schemasUpTo(longest int) map[string]bool {
	g := grammar{texts: map[string][][]string{}}
	all := map[string]bool{}
	for n := 0; n <= longest; n++ {
		g.types = append(g.types, g.typesOf(n))
		for _, s := range g.types[n] {
			all[s] = true
		}
	}
	return all
}

// grammar holds the types of each length, and the values' texts of each type by their length.
type grammar struct {
	types [][]string
	texts map[string][][]string
}

func (g *grammar) typesOf(n int) []string {
	all := []string{}
	if n == 1 {
		all = append(all, "i", "s")
	}
	for _, letters := range differentLetters(n - 2) {
		all = append(all, "<"+letters+">")
	}
	for _, letters := range differentLetters(n - 3) {
		all = append(all, "<"+letters+"+>")
	}
	if n > 2 {
		for _, s := range g.types[n-2] {
			all = append(all, "["+s+"]")
		}
	}
	if n > 1 {
		for _, s := range g.types[n-1] {
			if s[0] != '?' {
				all = append(all, "?"+s)
			}
		}
	}
	for _, fields := range g.fieldsOf(n-2, grammarLetters) {
		all = append(all, "{"+fields+"}")
	}
	return all
}

// fieldsOf tells one or more fields of n bytes in all, with these letters.
func (g *grammar) fieldsOf(n int, letters string) []string {
	all := []string{}
	for k := 0; k < len(letters); k++ {
		others := letters[:k] + letters[k+1:]
		for m := 1; m <= n; m++ {
			for _, field := range g.fieldOf(m, letters[k:k+1]) {
				if m == n {
					all = append(all, field)
				}
				for _, more := range g.fieldsOf(n-m-1, others) {
					all = append(all, field+","+more)
				}
			}
		}
	}
	return all
}

func (g *grammar) fieldOf(n int, letter string) []string {
	all := []string{}
	for m := 1; m <= n-2; m++ {
		for _, s := range g.types[m] {
			if m == n-2 {
				all = append(all, letter+":"+s)
			}
			for _, text := range g.textsOf(s, n-3-m) {
				all = append(all, letter+":"+s+"="+text)
			}
		}
	}
	return all
}

// textsOf tells the texts of n bytes of the values of a type without records (their texts are too long to count here).
func (g *grammar) textsOf(s string, n int) []string {
	if n < 1 {
		return nil
	}
	for len(g.texts[s]) <= n {
		g.texts[s] = append(g.texts[s], g.makeTexts(s, len(g.texts[s])))
	}
	return g.texts[s][n]
}

func (g *grammar) makeTexts(s string, n int) []string {
	all := []string{}
	switch s[0] {
	case 'i':
		for _, text := range wordsOf("-01", n) {
			digits := strings.TrimPrefix(text, "-")
			if text == "0" || strings.HasPrefix(digits, "1") && !strings.Contains(digits, "-") {
				all = append(all, text)
			}
		}
	case 's':
		for _, text := range wordsOf(strings.ReplaceAll(grammarBytes, `"`, ""), n-2) {
			all = append(all, `"`+text+`"`)
		}
	case '<':
		for _, letter := range strings.Trim(s, "<+>") {
			if n == 1 {
				all = append(all, string(letter))
			}
		}
	case '[':
		if n == 2 {
			all = append(all, "[]")
		}
		for _, items := range g.itemsOf(s[1:len(s)-1], n-2) {
			all = append(all, "["+items+"]")
		}
	case '?':
		if n == 1 {
			all = append(all, "_")
		}
		all = append(all, g.textsOf(s[1:], n)...)
	}
	return all
}

// itemsOf tells one or more values' texts of n bytes in all.
func (g *grammar) itemsOf(s string, n int) []string {
	all := append([]string{}, g.textsOf(s, n)...)
	for m := 1; m < n-1; m++ {
		for _, text := range g.textsOf(s, m) {
			for _, more := range g.itemsOf(s, n-m-1) {
				all = append(all, text+","+more)
			}
		}
	}
	return all
}

// wordsOf tells all words of n of the bytes.
func wordsOf(bytes string, n int) []string {
	if n < 0 {
		return nil
	}
	all := []string{""}
	for ; n > 0; n-- {
		longer := []string{}
		for _, word := range all {
			for k := 0; k < len(bytes); k++ {
				longer = append(longer, word+bytes[k:k+1])
			}
		}
		all = longer
	}
	return all
}

func differentLetters(n int) []string {
	all := []string{}
	if n < 1 || n > len(grammarLetters) {
		return all
	}
	for _, word := range wordsOf(grammarLetters, n) {
		different := true
		for k := range word {
			different = different && strings.Count(word, word[k:k+1]) == 1
		}
		if different {
			all = append(all, word)
		}
	}
	return all
}
