package ere

import (
	"fmt"
	"slices"
	"strings"
	"testing"

	"tedder/api"
	"tedder/sample"
)

func set(bytes string) api.Ere {
	return api.Ere{Op: "set", Set: bytes}
}

func cat(kids ...api.Ere) api.Ere {
	return api.Ere{Op: "cat", Kids: kids}
}

func alt(kids ...api.Ere) api.Ere {
	return api.Ere{Op: "alt", Kids: kids}
}

func rep(lo, hi int, kid api.Ere) api.Ere {
	return api.Ere{Op: "rep", Kids: []api.Ere{kid}, Lo: lo, Hi: hi}
}

func bol() api.Ere {
	return api.Ere{Op: "bol"}
}

func eol() api.Ere {
	return api.Ere{Op: "eol"}
}

// same tells whether two trees are the same in each field.
func same(a, b api.Ere) bool {
	return a.Op == b.Op && a.Set == b.Set && a.Lo == b.Lo && a.Hi == b.Hi && slices.EqualFunc(a.Kids, b.Kids, same)
}

// shown gives e for a reader.
func shown(e api.Ere) string {
	return fmt.Sprint(e)
}

// checkParse asks that Parse answers tree and fault of s.
func checkParse(t *testing.T, s string, tree api.Ere, fault int) {
	t.Helper()
	if e, f := Parse(s); f != fault || !same(e, tree) {
		t.Errorf("Parse(%.60q) is %.200q, %d, not %.200q, %d", s, shown(e), f, shown(tree), fault)
	}
}

// read is an expression, and its tree.
type read struct {
	text string
	tree api.Ere
}

func checkTrees(t *testing.T, cases []read) {
	t.Helper()
	for _, c := range cases {
		checkParse(t, c.text, c.tree, 0)
	}
}

// P3.1: bytes, the beginning, the end, any byte.
func TestAtoms(t *testing.T) {
	checkTrees(t, []read{
		{"", cat()},
		{"a", set("a")},
		{" ", set(" ")},
		{"\n", set("\n")},
		{"\x00", set("\x00")},
		{"\xff", set("\xff")},
		{"/", set("/")},
		{"-", set("-")},
		{",", set(",")},
		{"]", set("]")},
		{"}", set("}")},
		{"^", bol()},
		{"$", eol()},
		{".", set(sample.AllBytes())},
		{"^^", cat(bol(), bol())},
		{"$a^", cat(eol(), set("a"), bol())},
		{"a]b}", cat(set("a"), set("]"), set("b"), set("}"))},
		{"\u00e9", cat(set("\xc3"), set("\xa9"))},
	})
}

// P3.1: each byte that means nothing else is itself, also among others.
func TestPlainBytes(t *testing.T) {
	for c := range 256 {
		s := string([]byte{byte(c)})
		if strings.Contains("^$.[|()*+?\\", s) {
			continue
		}
		checkTrees(t, []read{
			{s, set(s)},
			{"a" + s, cat(set("a"), set(s))},
			{s + s + "*", cat(set(s), rep(0, -1, set(s)))},
			{"(" + s + ")|" + s, alt(set(s), set(s))},
		})
	}
}

// P3.1: one piece or branch alone stands for itself, none is a cat of nothing, groups are what is in them.
func TestBranchesAndGroups(t *testing.T) {
	a, b, c, d := set("a"), set("b"), set("c"), set("d")
	checkTrees(t, []read{
		{"ab", cat(a, b)},
		{"a|b", alt(a, b)},
		{"a|b|c", alt(a, b, c)},
		{"ab|cd", alt(cat(a, b), cat(c, d))},
		{"|", alt(cat(), cat())},
		{"a|", alt(a, cat())},
		{"|a", alt(cat(), a)},
		{"a||b", alt(a, cat(), b)},
		{"()", cat()},
		{"(())", cat()},
		{"()()", cat(cat(), cat())},
		{"(a)", a},
		{"((a))", a},
		{"(a)(b)", cat(a, b)},
		{"(ab)", cat(a, b)},
		{"(ab)c", cat(cat(a, b), c)},
		{"a(bc)", cat(a, cat(b, c))},
		{"(ab)|c", alt(cat(a, b), c)},
		{"(a|b)", alt(a, b)},
		{"(a|b)|c", alt(alt(a, b), c)},
		{"(a|b)c", cat(alt(a, b), c)},
		{"a(b|c)d", cat(a, alt(b, c), d)},
		{"(|)", alt(cat(), cat())},
		{"(|a)b", cat(alt(cat(), a), b)},
		{"^(a|b)$", cat(bol(), alt(a, b), eol())},
		{"((a)|(b(c)d))", alt(a, cat(b, c, d))},
		{"([)])", set(")")},
		{`(\))`, set(")")},
		{`\(|\|`, alt(set("("), set("|"))},
	})
}

// P3.1: each repeat, and repeats of repeats, groups and edges.
func TestRepeats(t *testing.T) {
	a, b := set("a"), set("b")
	checkTrees(t, []read{
		{"a*", rep(0, -1, a)},
		{"a+", rep(1, -1, a)},
		{"a?", rep(0, 1, a)},
		{"a{0}", rep(0, 0, a)},
		{"a{3}", rep(3, 3, a)},
		{"a{0,}", rep(0, -1, a)},
		{"a{1,}", rep(1, -1, a)},
		{"a{12,}", rep(12, -1, a)},
		{"a{0,0}", rep(0, 0, a)},
		{"a{0,1}", rep(0, 1, a)},
		{"a{2,10}", rep(2, 10, a)},
		{"a{7,7}", rep(7, 7, a)},
		{"a{255}", rep(255, 255, a)},
		{"a{255,}", rep(255, -1, a)},
		{"a{0,255}", rep(0, 255, a)},
		{"a{255,255}", rep(255, 255, a)},
		{"a{007}", rep(7, 7, a)},
		{"a{" + strings.Repeat("0", 5000) + "2,0003}", rep(2, 3, a)},
		{"ab*", cat(a, rep(0, -1, b))},
		{"a*b", cat(rep(0, -1, a), b)},
		{"a|b*", alt(a, rep(0, -1, b))},
		{"(ab)*", rep(0, -1, cat(a, b))},
		{"(a|b)+", rep(1, -1, alt(a, b))},
		{"()*", rep(0, -1, cat())},
		{"(a*)", rep(0, -1, a)},
		{"(a*)?", rep(0, 1, rep(0, -1, a))},
		{"a+?", rep(0, 1, rep(1, -1, a))},
		{"a**", rep(0, -1, rep(0, -1, a))},
		{"a?+*{2}{3,}", rep(3, -1, rep(2, 2, rep(0, -1, rep(1, -1, rep(0, 1, a)))))},
		{"^*", rep(0, -1, bol())},
		{"a$?", cat(a, rep(0, 1, eol()))},
		{".+", rep(1, -1, set(sample.AllBytes()))},
		{"[ab]{2}", rep(2, 2, set("ab"))},
		{`\*+`, rep(1, -1, set("*"))},
		{"]*}+", cat(rep(0, -1, set("]")), rep(1, -1, set("}")))},
	})
}

// P3.1: a { that no digit follows is an atom.
func TestBareBraces(t *testing.T) {
	a, brace := set("a"), set("{")
	checkTrees(t, []read{
		{"{", brace},
		{"a{", cat(a, brace)},
		{"{a", cat(brace, a)},
		{"{}", cat(brace, set("}"))},
		{"{,2}", cat(brace, set(","), set("2"), set("}"))},
		{"a{ 1}", cat(a, brace, set(" "), set("1"), set("}"))},
		{"a{-1}", cat(a, brace, set("-"), set("1"), set("}"))},
		{"{*", rep(0, -1, brace)},
		{"{{2}", rep(2, 2, brace)},
		{"a{2}{", cat(rep(2, 2, a), brace)},
		{"a{2}}", cat(rep(2, 2, a), set("}"))},
		{`\{1}`, cat(brace, set("1"), set("}"))},
		{`a\{1,`, cat(a, brace, set("1"), set(","))},
		{"{|{", alt(brace, brace)},
		{"({)", brace},
	})
}

// P3.1: bytes behind a \.
func TestEscapes(t *testing.T) {
	checkTrees(t, []read{
		{`\a\b\f\n\r\t\v`, cat(set("\x07"), set("\x08"), set("\x0c"), set("\x0a"), set("\x0d"), set("\x09"), set("\x0b"))},
		{`\0`, set("\x00")},
		{`\7`, set("\x07")},
		{`\12`, set("\n")},
		{`\141`, set("a")},
		{`\1411`, cat(set("a"), set("1"))},
		{`\0141`, cat(set("\x0c"), set("1"))},
		{`\18`, cat(set("\x01"), set("8"))},
		{`\129`, cat(set("\n"), set("9"))},
		{`\377`, set("\xff")},
		{`\400`, set("\x00")},
		{`\541`, set("a")},
		{`\777`, set("\xff")},
		{`\8`, set("8")},
		{`\9`, set("9")},
		{`\\`, set(`\`)},
		{`\/`, set("/")},
		{`\"`, set(`"`)},
		{"\\\n", set("\n")},
		{"\\\x00", set("\x00")},
		{"\\\xff", set("\xff")},
		{`\^\$\.\[\]\|\(\)\*\+\?\{\}`, cat(set("^"), set("$"), set("."), set("["), set("]"), set("|"), set("("), set(")"), set("*"), set("+"), set("?"), set("{"), set("}"))},
		{`\n*`, rep(0, -1, set("\n"))},
		{`\60{2}`, rep(2, 2, set("0"))},
	})
}

// P3.1: \ and each byte, and each number of base 8 of one to three digits.
func TestAllEscapes(t *testing.T) {
	letters := map[byte]byte{'a': 7, 'b': 8, 'f': 12, 'n': 10, 'r': 13, 't': 9, 'v': 11}
	for c := range 256 {
		want := byte(c)
		if b, ok := letters[want]; ok {
			want = b
		}
		if '0' <= want && want <= '7' {
			want -= '0'
		}
		text := `\` + string([]byte{byte(c)})
		checkParse(t, text, set(string([]byte{want})), 0)
		checkParse(t, "["+text+"]", set(string([]byte{want})), 0)
	}
	for n := range 512 {
		digits := string([]byte{byte('0' + n>>6), byte('0' + n>>3&7), byte('0' + n&7)})
		for _, d := range []string{digits, strings.TrimLeft(digits, "0")} {
			if d != "" {
				checkParse(t, `\`+d, set(string([]byte{byte(n)})), 0)
				checkParse(t, `[\`+d+`]`, set(string([]byte{byte(n)})), 0)
			}
		}
	}
}
