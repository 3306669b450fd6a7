package lex

import (
	"slices"
	"strings"
	"testing"

	"tedder/api"
	"tedder/sample"
)

// row gives tokens of kinds and texts, by turns.
func row(words ...string) []api.Token {
	var l []api.Token
	for i := 0; i < len(words); i += 2 {
		l = append(l, api.Token{Kind: words[i], Text: words[i+1]})
	}
	return l
}

// ops gives tokens of kind op.
func ops(texts ...string) []api.Token {
	var l []api.Token
	for _, text := range texts {
		l = append(l, api.Token{Kind: "op", Text: text})
	}
	return l
}

// checkLex asks that Lex answers these tokens of s.
func checkLex(t *testing.T, s string, tokens []api.Token) {
	t.Helper()
	if l, ok := Lex(s); !ok || !slices.Equal(l, tokens) {
		t.Errorf("Lex(%.60q) is %.300q, %v, not %.300q", s, l, ok, tokens)
	}
}

// checkNone asks that each text is no program.
func checkNone(t *testing.T, texts ...string) {
	t.Helper()
	for _, s := range texts {
		if l, ok := Lex(s); ok || l != nil {
			t.Errorf("Lex(%.60q) is %.300q, %v, not none", s, l, ok)
		}
	}
}

// source is a text, and its tokens.
type source struct {
	text   string
	tokens []api.Token
}

func checkAll(t *testing.T, cases []source) {
	t.Helper()
	for _, c := range cases {
		checkLex(t, c.text, c.tokens)
	}
}

// P5.1: what stands between tokens is none, and parts them.
func TestGaps(t *testing.T) {
	two := row("name", "a", "name", "b")
	lines := row("name", "a", "nl", "", "name", "b")
	checkAll(t, []source{
		{"", nil},
		{" ", nil},
		{"\t \t", nil},
		{"\\\n", nil},
		{"\\\n\\\n \\\n", nil},
		{"#", nil},
		{"# a \" / \\ @ \x00\xff getline", nil},
		{" a\t", row("name", "a")},
		{"a b", two},
		{"a\tb", two},
		{"a\\\nb", two},
		{"a \\\n\t\\\n b", two},
		{"a\nb", lines},
		{"a # c\nb", lines},
		{"a#\nb", lines},
		{"a##b#\nb", lines},
		{"a # c \\\nb", lines},
		{"a \\\n# c\nb", lines},
		{"# a\n# b\n", row("nl", "", "nl", "")},
		{"\n\n", row("nl", "", "nl", "")},
		{"1\\\n2", row("num", "1", "num", "2")},
		{"+\\\n+", ops("+", "+")},
		{"+ +", ops("+", "+")},
	})
	checkNone(t, "\\", "a\\", "\\ \n", "\\\r\n", "a\\b", "\\\\\n", "\\#\n", "\r", "\v", "\f", "\u00a0")
}

// P5.1: numbers, as long as may be.
func TestNums(t *testing.T) {
	for _, s := range []string{"0", "7", "007", "1234567890", "1.", "1.5", ".5", ".50", "00.00", "1e5", "1E5", "1e+5", "1e-5", "1E-05", "1.e2", ".5e2", "1.5E+3", "12.34e56", "1e999999", strings.Repeat("9", 5000)} {
		checkLex(t, s, row("num", s))
		checkLex(t, s+";"+s, row("num", s, "op", ";", "num", s))
	}
	checkAll(t, []source{
		{"1e", row("num", "1", "name", "e")},
		{"1e+", row("num", "1", "name", "e", "op", "+")},
		{"1e-x", row("num", "1", "name", "e", "op", "-", "name", "x")},
		{"1e++5", row("num", "1", "name", "e", "op", "++", "num", "5")},
		{"1ee5", row("num", "1", "name", "ee5")},
		{"1e(2)", row("num", "1", "func", "e", "op", "(", "num", "2", "op", ")")},
		{"1.e", row("num", "1.", "name", "e")},
		{"1.5.2", row("num", "1.5", "num", ".2")},
		{"1..2", row("num", "1.", "num", ".2")},
		{"1e5.5", row("num", "1e5", "num", ".5")},
		{"1e5e5", row("num", "1e5", "name", "e5")},
		{"1.5e+3.2", row("num", "1.5e+3", "num", ".2")},
		{"0x1F", row("num", "0", "name", "x1F")},
		{"1_0", row("num", "1", "name", "_0")},
		{"1 e5", row("num", "1", "name", "e5")},
		{"-1", row("op", "-", "num", "1")},
		{"1+2", row("num", "1", "op", "+", "num", "2")},
		{"a.5", row("name", "a", "num", ".5")},
		{"a1.5", row("name", "a1", "num", ".5")},
	})
	checkNone(t, ".", "..", "1...", ".e5", "a.b", "1..", "1.5.", ".+5")
}

// P5.1: names, and names right ahead of a parenthesis.
func TestNames(t *testing.T) {
	for _, s := range []string{"a", "Z", "_", "__", "a1", "_1", "aB_9z", "BEGINx", "begin", "End", "e5", "getline_", "Func", "argv", "length1", "lengths", "_length", strings.Repeat("x", 5000)} {
		checkAll(t, []source{
			{s, row("name", s)},
			{s + "(", row("func", s, "op", "(")},
			{s + " (", row("name", s, "op", "(")},
			{s + "\t(", row("name", s, "op", "(")},
			{s + "\\\n(", row("name", s, "op", "(")},
			{s + "\n(", row("name", s, "nl", "", "op", "(")},
			{s + "[", row("name", s, "op", "[")},
			{s + "\"(\"", row("name", s, "str", "(")},
		})
	}
	checkAll(t, []source{
		{"f(x) g (y)", row("func", "f", "op", "(", "name", "x", "op", ")", "name", "g", "op", "(", "name", "y", "op", ")")},
		{"a1_B in", row("name", "a1_B", "word", "in")},
		{"9a", row("num", "9", "name", "a")},
		{"f((", row("func", "f", "op", "(", "op", "(")},
	})
	checkNone(t, "\u00e9", "a\u00e9", "a\xff", "a@", "a'", "a`")
}

// P5.1: words and builts are such whatever stands around them.
func TestWordsAndBuilts(t *testing.T) {
	for kind, names := range map[string]string{
		"word":  "BEGIN END function delete in if else while do for break continue next exit return print printf",
		"built": "length substr index split sub gsub match sprintf tolower toupper int",
	} {
		for _, s := range strings.Fields(names) {
			checkAll(t, []source{
				{s, row(kind, s)},
				{s + "(", row(kind, s, "op", "(")},
				{s + " (", row(kind, s, "op", "(")},
				{s + " " + s, row(kind, s, kind, s)},
				{"1" + s, row("num", "1", kind, s)},
				{s + "_", row("name", s+"_")},
				{"_" + s, row("name", "_"+s)},
				{s + "1(", row("func", s+"1", "op", "(")},
				{"\"" + s + "\"", row("str", s)},
			})
		}
	}
}

// P5.1: a barred name makes no program, also as a function; in a str, an ere or a remark it is none.
func TestBarredNames(t *testing.T) {
	for _, s := range strings.Fields("getline system close fflush nextfile rand srand sin cos atan2 exp log sqrt func ENVIRON ARGV ARGC") {
		checkNone(t, s, s+"(", s+" (x)", "a;"+s, s+"[1]", "1"+s, "$"+s, "f("+s+")", s+"\n")
		checkAll(t, []source{
			{s + "_", row("name", s+"_")},
			{s + "0(", row("func", s+"0", "op", "(")},
			{"x" + s, row("name", "x"+s)},
			{"\"" + s + "\"", row("str", s)},
			{"/" + s + "/", row("ere", s)},
			{"#" + s, nil},
			{strings.ToUpper(s[:1]) + strings.ToLower(s[1:]), row("name", strings.ToUpper(s[:1])+strings.ToLower(s[1:]))},
		})
	}
}

// P5.1: ops, the longest first.
func TestOps(t *testing.T) {
	for _, s := range strings.Fields("{ } ( ) [ ] ; , + - * % ^ ! > >> < ? : ~ !~ $ = += -= *= %= ^= == <= >= != ++ -- && ||") {
		checkAll(t, []source{
			{s, ops(s)},
			{s + " " + s, ops(s, s)},
			{"a " + s + "\"b\"", row("name", "a", "op", s, "str", "b")},
			{s + ";", ops(s, ";")},
		})
	}
	checkAll(t, []source{
		{"a/b", row("name", "a", "op", "/", "name", "b")},
		{"a/=b", row("name", "a", "op", "/=", "name", "b")},
		{"a / = b", row("name", "a", "op", "/", "op", "=", "name", "b")},
		{"a+++b", row("name", "a", "op", "++", "op", "+", "name", "b")},
		{"+++++", ops("++", "++", "+")},
		{"---", ops("--", "-")},
		{"+-+", ops("+", "-", "+")},
		{"++=", ops("++", "=")},
		{"x>>=1", row("name", "x", "op", ">>", "op", "=", "num", "1")},
		{">>>", ops(">>", ">")},
		{">=>", ops(">=", ">")},
		{"<<=", ops("<", "<=")},
		{"===", ops("==", "=")},
		{"=~", ops("=", "~")},
		{"!~~", ops("!~", "~")},
		{"!!~", ops("!", "!~")},
		{"!==", ops("!=", "=")},
		{"**=", ops("*", "*=")},
		{"^^", ops("^", "^")},
		{"~=", ops("~", "=")},
		{"&&&&", ops("&&", "&&")},
		{"||||", ops("||", "||")},
		{"{}()[];,", ops("{", "}", "(", ")", "[", "]", ";", ",")},
	})
	checkNone(t, "&", "|", "a & b", "a | b", "&&&", "|||", "&|", "& &", "| |", "&=", "|=", "a|")
}

// P5.1: of each byte alone, whether it makes a program, and which.
func TestSingleBytes(t *testing.T) {
	for c := range 256 {
		s := string([]byte{byte(c)})
		switch {
		case s == "\n":
			checkLex(t, s, row("nl", ""))
		case strings.Contains(" \t#", s):
			checkLex(t, s, nil)
		case strings.Contains("0123456789", s):
			checkLex(t, s, row("num", s))
		case strings.Contains("abcdefghijklmnopqrstuvwxyzABCDEFGHIJKLMNOPQRSTUVWXYZ_", s):
			checkLex(t, s, row("name", s))
		case strings.Contains("{}()[];,+-*%^!><?:~$=", s):
			checkLex(t, s, ops(s))
		case s == "/":
			checkLex(t, "a"+s, row("name", "a", "op", s))
			checkNone(t, s)
		default:
			checkNone(t, s, "a "+s, s+s+s, "\n"+s+"a\n")
		}
	}
}

// P5.1: at most MaxSource bytes, and at most MaxTokens tokens.
func TestLimits(t *testing.T) {
	for _, n := range []int{65535, 65536} {
		name := strings.Repeat("n", n)
		inner := strings.Repeat("s", n-2)
		checkAll(t, []source{
			{name, row("name", name)},
			{strings.Repeat("1", n), row("num", strings.Repeat("1", n))},
			{"\"" + inner + "\"", row("str", inner)},
			{"/" + inner + "/", row("ere", inner)},
			{strings.Repeat(" ", n), nil},
			{"#" + inner, nil},
			{strings.Repeat(" ", n-1) + "a", row("name", "a")},
		})
	}
	checkNone(t, strings.Repeat("n", 65537), strings.Repeat(" ", 65537), "a"+strings.Repeat("\t", 65536), "#"+strings.Repeat("x", 65536), "\""+strings.Repeat("s", 65535)+"\"")
	for _, n := range []int{19999, 20000} {
		many := slices.Repeat(ops(";"), n)
		checkAll(t, []source{
			{strings.Repeat(";", n), many},
			{strings.Repeat("; ", n) + "\\\n # end", many},
			{strings.Repeat("\n", n), slices.Repeat(row("nl", ""), n)},
			{strings.Repeat("\"\"", n), slices.Repeat(row("str", ""), n)},
			{strings.Repeat("f(", n/2), slices.Repeat(row("func", "f", "op", "("), n/2)},
		})
	}
	checkNone(t, strings.Repeat(";", 20001), strings.Repeat("\n", 20001), strings.Repeat("\"\"", 20001), strings.Repeat(";", 20000)+" a", strings.Repeat(";", 20000)+"\n", strings.Repeat("a\n", 30000))
}

// P5.1: whole programs.
func TestPrograms(t *testing.T) {
	checkAll(t, []source{
		{"a /b/ c", row("name", "a", "op", "/", "name", "b", "op", "/", "name", "c")},
		{"BEGIN{print}# x\n!a", row("word", "BEGIN", "op", "{", "word", "print", "op", "}", "nl", "", "op", "!", "name", "a")},
		{"NR == 2, /x/", row("name", "NR", "op", "==", "num", "2", "op", ",", "ere", "x")},
		{"{ s += $1 } END { print s }", row("op", "{", "name", "s", "op", "+=", "op", "$", "num", "1", "op", "}", "word", "END", "op", "{", "word", "print", "name", "s", "op", "}")},
		{"{ n[$2]++ }", row("op", "{", "name", "n", "op", "[", "op", "$", "num", "2", "op", "]", "op", "++", "op", "}")},
		{"{ print > $1 }", row("op", "{", "word", "print", "op", ">", "op", "$", "num", "1", "op", "}")},
		{"print length(\"abc\"), substr(\"hello\", 2, 3)", row("word", "print", "built", "length", "op", "(", "str", "abc", "op", ")", "op", ",", "built", "substr", "op", "(", "str", "hello", "op", ",", "num", "2", "op", ",", "num", "3", "op", ")")},
		{"gsub(/\\//, \"\\\\&\")", row("built", "gsub", "op", "(", "ere", "/", "op", ",", "str", "\\&", "op", ")")},
		{"function f(a, b) { return a/b }", row("word", "function", "func", "f", "op", "(", "name", "a", "op", ",", "name", "b", "op", ")", "op", "{", "word", "return", "name", "a", "op", "/", "name", "b", "op", "}")},
	})
}

// checkBytes asks that each byte may stand between quotes as want tells: its text, and whether it may.
func checkBytes(t *testing.T, kind, ahead, behind string, want func(byte) (string, bool)) {
	t.Helper()
	all := sample.AllBytes()
	for i := range len(all) {
		text, ok := want(all[i])
		if s := ahead + all[i:i+1] + behind; ok {
			checkLex(t, s, row(kind, text))
		} else {
			checkNone(t, s)
		}
	}
}
