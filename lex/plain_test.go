package lex

import (
	"regexp"
	"slices"
	"strconv"
	"strings"
	"testing"

	"tedder/api"
	"tedder/sample"
)

// scanner cuts tokens off a text by patterns.
type scanner struct {
	gap, num, str, ere, name *regexp.Regexp
	strEscape, ereEscape     *regexp.Regexp
	words, builts, barred    []string
	ops, enders              []string
}

func newScanner() *scanner {
	at := func(pattern string) *regexp.Regexp {
		e := regexp.MustCompile(`(?s)\A(?:` + pattern + `)`)
		e.Longest()
		return e
	}
	return &scanner{
		// Not the longest: a \ at the end of a remark is part of it, and breaks no line.
		gap:       regexp.MustCompile(`\A([ \t]|\\\n|#[^\n]*)*`),
		num:       at(`([0-9]+|[0-9]+\.[0-9]*|\.[0-9]+)([eE][-+]?[0-9]+)?`),
		str:       at(`"([^"\\\n]|\\.)*"`),
		ere:       at(`/([^/\\\n]|\\[^\n])*/`),
		name:      at(`[A-Za-z_][A-Za-z_0-9]*`),
		strEscape: regexp.MustCompile(`(?s)\\([0-7]{1,3}|.)`),
		ereEscape: regexp.MustCompile(`(?s)\\.`),
		words:     strings.Fields("BEGIN END function delete in if else while do for break continue next exit return print printf"),
		builts:    strings.Fields("length substr index split sub gsub match sprintf tolower toupper int"),
		barred:    strings.Fields("getline system close fflush nextfile rand srand sin cos atan2 exp log sqrt func ENVIRON ARGV ARGC"),
		ops:       strings.Fields("{ } ( ) [ ] ; , + - * / % ^ ! > >> < ? : ~ !~ $ = += -= *= /= %= ^= == <= >= != ++ -- && ||"),
		enders:    strings.Fields(") ] $ ++ --"),
	}
}

// wide gives each byte of s as a rune, so that a pattern's dot is a byte.
func wide(s string) string {
	var l []rune
	for i := range len(s) {
		l = append(l, rune(s[i]))
	}
	return string(l)
}

// narrow gives each rune of s as a byte.
func narrow(s string) string {
	var b []byte
	for _, r := range s {
		b = append(b, byte(r))
	}
	return string(b)
}

// meantBy gives what an escape in a str stands for.
func meantBy(escape string) string {
	if n, err := strconv.ParseInt(escape[1:], 8, 0); err == nil {
		return string(rune(n % 256))
	}
	meant, ok := map[string]string{"\"": "\"", "\\": "\\", "/": "/", "a": "\a", "b": "\b", "f": "\f", "n": "\n", "r": "\r", "t": "\t", "v": "\v", "\n": ""}[escape[1:]]
	if !ok {
		return escape
	}
	return meant
}

// op gives the longest op that s begins with.
func (sc *scanner) op(s string) string {
	longest := ""
	for _, op := range sc.ops {
		if strings.HasPrefix(s, op) && len(op) > len(longest) {
			longest = op
		}
	}
	return longest
}

// ends tells whether t ends an operand.
func (sc *scanner) ends(t api.Token) bool {
	return slices.Contains([]string{"num", "str", "ere", "name"}, t.Kind) ||
		t == api.Token{Kind: "built", Text: "length"} || t.Kind == "op" && slices.Contains(sc.enders, t.Text)
}

// named gives the token of a name, with what is behind it.
func (sc *scanner) named(name, behind string) api.Token {
	switch {
	case slices.Contains(sc.barred, name):
		return api.Token{}
	case slices.Contains(sc.words, name):
		return api.Token{Kind: "word", Text: name}
	case slices.Contains(sc.builts, name):
		return api.Token{Kind: "built", Text: name}
	case strings.HasPrefix(behind, "("):
		return api.Token{Kind: "func", Text: name}
	}
	return api.Token{Kind: "name", Text: name}
}

// cut cuts a token off s: the token, and how long it is; without a kind, if there is none.
func (sc *scanner) cut(s string, last api.Token) (api.Token, int) {
	if s[0] == '\n' {
		return api.Token{Kind: "nl"}, 1
	}
	if m := sc.str.FindString(s); m != "" {
		return api.Token{Kind: "str", Text: sc.strEscape.ReplaceAllStringFunc(m[1:len(m)-1], meantBy)}, len(m)
	}
	if s[0] == '/' && !sc.ends(last) {
		m := sc.ere.FindString(s)
		if m == "" {
			return api.Token{}, 0
		}
		return api.Token{Kind: "ere", Text: sc.ereEscape.ReplaceAllStringFunc(m[1:len(m)-1], func(escape string) string {
			return strings.Replace(escape, `\/`, "/", 1)
		})}, len(m)
	}
	if m := sc.num.FindString(s); m != "" {
		return api.Token{Kind: "num", Text: m}, len(m)
	}
	if m := sc.name.FindString(s); m != "" {
		return sc.named(m, s[len(m):]), len(m)
	}
	if m := sc.op(s); m != "" {
		return api.Token{Kind: "op", Text: m}, len(m)
	}
	return api.Token{}, 0
}

// plainLex says the chapter's words again, but for the limits.
func (sc *scanner) plainLex(text string) ([]api.Token, bool) {
	var l []api.Token
	var last api.Token
	for s := wide(text); ; {
		s = s[len(sc.gap.FindString(s)):]
		if s == "" {
			return l, true
		}
		var size int
		last, size = sc.cut(s, last)
		if last.Kind == "" {
			return nil, false
		}
		l = append(l, api.Token{Kind: last.Kind, Text: narrow(last.Text)})
		s = s[size:]
	}
}

// checkPlain asks that Lex of s is what the chapter's words tell, and gives whether s is a program.
func (sc *scanner) checkPlain(t *testing.T, s string) bool {
	t.Helper()
	l, ok := sc.plainLex(s)
	if ok {
		checkLex(t, s, l)
	} else {
		checkNone(t, s)
	}
	return ok
}

// P5.1: Lex of all small texts of bytes that mean something is what the chapter's words tell.
func TestSmallTexts(t *testing.T) {
	sc := newScanner()
	var texts []string
	texts = append(texts, sample.Texts(sample.AllBytes(), 2)...)
	texts = append(texts, sample.Texts("+-*/%^!><?:~$=&|", 3)...)
	texts = append(texts, sample.Texts("1.eE+a", 6)...)
	texts = append(texts, sample.Texts("/=a)\\\n", 6)...)
	texts = append(texts, sample.Texts("a_9( \\\n#", 5)...)
	for _, s := range sample.Texts("\"\\n17/\n", 5) {
		texts = append(texts, s, "\""+s+"\"", "/"+s+"/")
	}
	for _, s := range texts {
		sc.checkPlain(t, s)
		if t.Failed() {
			return
		}
	}
}

// manyParts gives pieces of which texts are made.
func manyParts(sc *scanner) []string {
	return slices.Concat(sc.words, sc.builts, sc.ops, sc.ops, []string{
		" ", " ", " ", "\t", "\n", "\n", "\\\n", "# x\n", "#", "a", "b_", "_1", "x(", "e", "E5", "0", "12", ".", "1.", ".5", "1e", "1e+", "1e-5", "3.25E7", "\"\"", "\"a b\"", `"\t\"\/\\"`, `"\101\7"`, "\"a\\\nb\"", "\"\xff\x00\"", "\"\\\xe9\"",
		"/", "//", "/a/", `/\//`, "/[/]/", "/a b#\"/", `/\\/`, "/=", "\"", "\\", "&", "|", "@", "'", "\x00", "\xff", "\u00e9", "\r", "getline", "ARGV", "func", "func(", "getlines",
	})
}

// P5.1: Lex of long mixed texts is what the chapter's words tell.
func TestMixedTexts(t *testing.T) {
	sc := newScanner()
	parts := manyParts(sc)
	programs := [2]int{}
	bits := sample.Bits(400000)
	for len(bits) > 16 {
		count := int(bits[0]>>40) % 16
		s := ""
		for _, b := range bits[1 : 1+count] {
			s += parts[int(b>>40)%len(parts)]
		}
		bits = bits[1+count:]
		if sc.checkPlain(t, s) {
			programs[1]++
		} else {
			programs[0]++
		}
		if t.Failed() {
			return
		}
	}
	if min(programs[0], programs[1]) < 1000 {
		t.Errorf("%d texts are no program, %d are one", programs[0], programs[1])
	}
}
