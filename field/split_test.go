package field

import (
	"slices"
	"strings"
	"testing"

	"tedder/api"
	"tedder/sample"
)

// shown gives fields for a reader.
func shown(fields []string) string {
	return "<" + strings.Join(fields, "> <") + ">"
}

// checkSplit asks for these fields of s, by Split and by a record of it.
func checkSplit(t *testing.T, s, sep string, lines bool, want ...string) {
	t.Helper()
	if got, ok := Split(s, sep, lines); !ok || !slices.Equal(got, want) {
		t.Errorf("%.60q by %.60q, %v: %.300q, %v, not %.300q", s, sep, lines, shown(got), ok, shown(want))
	}
	r, ok := New(s, sep, lines)
	if !ok || r == nil {
		t.Fatalf("no record of %.60q by %.60q, %v", s, sep, lines)
	}
	checkRecord(t, r, s, want...)
}

// checkBoth asks for the same fields of s with lines and without.
func checkBoth(t *testing.T, s, sep string, want ...string) {
	t.Helper()
	checkSplit(t, s, sep, false, want...)
	checkSplit(t, s, sep, true, want...)
}

// checkRecord asks for this line of r, and these fields.
func checkRecord(t *testing.T, r *Record, line string, want ...string) {
	t.Helper()
	if r.Line() != line || r.NF() != len(want) {
		t.Errorf("line %.300q, %d fields, not %.300q, %d", r.Line(), r.NF(), line, len(want))
	}
	checkGet(t, r, 0, line)
	for i, s := range want {
		checkGet(t, r, i+1, s)
	}
}

// checkGet asks for s as what Get gives of i.
func checkGet(t *testing.T, r *Record, i int, s string) {
	t.Helper()
	if got, ok := r.Get(i); !ok || got != s {
		t.Errorf("field %d is %.300q, %v, not %.300q", i, got, ok, s)
	}
}

// P10.1: the empty text has no fields, by whatever separator.
func TestEmptyText(t *testing.T) {
	for c := range 256 {
		checkBoth(t, "", string([]byte{byte(c)}))
	}
	for _, sep := range []string{"", " ", ":", "  ", "a*", "^$", "^", "()", "|", "||", "x", "xy", "[ ]+"} {
		checkBoth(t, "", sep)
	}
}

// P10.1: by a blank: the longest runs of bytes that aren't 32, 9, 10.
func TestBlank(t *testing.T) {
	checkBoth(t, " a  b ", " ", "a", "b")
	checkBoth(t, "a", " ", "a")
	checkBoth(t, "ab cd", " ", "ab", "cd")
	checkBoth(t, "a\tb\nc d", " ", "a", "b", "c", "d")
	checkBoth(t, "\n\t a \t\n b\n", " ", "a", "b")
	checkBoth(t, " ", " ")
	checkBoth(t, "\n", " ")
	checkBoth(t, " \t\n\n\t ", " ")
	checkBoth(t, "a\u00a0b\u2003c\u0085d \u00e9", " ", "a\u00a0b\u2003c\u0085d", "\u00e9")
	checkBoth(t, "\xff \x80\xc3 \xa9", " ", "\xff", "\x80\xc3", "\xa9")
	for c := range 256 {
		b := string([]byte{byte(c)})
		if c == 32 || c == 9 || c == 10 {
			checkBoth(t, "x"+b+"y"+b+b+"z"+b, " ", "x", "y", "z")
			checkBoth(t, b, " ")
		} else {
			checkBoth(t, "x"+b+"y", " ", "x"+b+"y")
			checkBoth(t, b+" "+b, " ", b, b)
		}
	}
}

// P10.1: by nothing: each byte, a byte 10 or a blank, too.
func TestNoSeparator(t *testing.T) {
	checkBoth(t, "a", "", "a")
	checkBoth(t, "abc", "", "a", "b", "c")
	checkBoth(t, "a b", "", "a", " ", "b")
	checkBoth(t, "a\n\nb", "", "a", "\n", "\n", "b")
	checkBoth(t, "\u00e9\xff\x00", "", "\xc3", "\xa9", "\xff", "\x00")
	bytes := sample.AllBytes()
	var want []string
	for i := range len(bytes) {
		want = append(want, bytes[i:i+1])
	}
	checkBoth(t, bytes, "", want...)
}

// P10.1: by one other byte: what stands between such bytes, empty fields, too.
func TestOneByte(t *testing.T) {
	checkBoth(t, "a:b::", ":", "a", "b", "", "")
	checkBoth(t, ":", ":", "", "")
	checkBoth(t, "a", ":", "a")
	checkBoth(t, "a:b", ":", "a", "b")
	checkBoth(t, ":a", ":", "", "a")
	checkBoth(t, "a:", ":", "a", "")
	checkBoth(t, ":::", ":", "", "", "", "")
	checkBoth(t, " a : b\t:", ":", " a ", " b\t", "")
	checkBoth(t, "a\tb c\t", "\t", "a", "b c", "")
	checkBoth(t, "\u00e9\u00ea", "\xc3", "", "\xa9", "\xaa")
	checkBoth(t, "a\x00b", "\x00", "a", "b")
	for c := range 256 {
		if c == 32 {
			continue
		}
		// No byte is an expression here.
		b, other := string([]byte{byte(c)}), string([]byte{byte(c + 128)})
		if other == "\n" {
			other = "\v"
		}
		checkBoth(t, b+other+other+b+b+other, b, "", other+other, "", other)
		checkBoth(t, other, b, other)
	}
}

// P10.1: with lines a byte 10 parts fields, too, by one byte.
func TestOneByteWithLines(t *testing.T) {
	checkSplit(t, "a:b\nc", ":", false, "a", "b\nc")
	checkSplit(t, "a:b\nc", ":", true, "a", "b", "c")
	checkSplit(t, "\n", ":", false, "\n")
	checkSplit(t, "\n", ":", true, "", "")
	checkSplit(t, "\n:\n", ":", false, "\n", "\n")
	checkSplit(t, "\n:\n", ":", true, "", "", "", "")
	checkSplit(t, "a b\nc\n", "\t", false, "a b\nc\n")
	checkSplit(t, "a b\nc\n", "\t", true, "a b", "c", "")
	checkSplit(t, "a\r\nb", ":", true, "a\r", "b")
	checkBoth(t, "a\n\nb:", "\n", "a", "", "b:")
}

// P10.1: by more than a byte: what stands between the matches of an expression.
func TestExpressions(t *testing.T) {
	checkBoth(t, "a1bb22c", "[0-9]+", "a", "bb", "c")
	checkBoth(t, "1a22", "[0-9]+", "", "a", "")
	checkBoth(t, "22", "[0-9]+", "", "")
	checkBoth(t, "a", "[0-9]+", "a")
	checkBoth(t, "a--b---c", "--", "a", "b", "-c")
	checkBoth(t, "a  b c   d", "  ", "a", "b c", " d")
	checkBoth(t, "a.b", "\\.", "a", "b")
	checkBoth(t, "a, b,c,   d", ", *", "a", "b", "c", "d")
	checkBoth(t, "a\u00e9b\xc3c\xa9", "\u00e9", "a", "b\xc3c\xa9")
	checkBoth(t, "ab", "..", "", "")
	checkBoth(t, "abc", "..", "", "c")
	checkBoth(t, "a||b", "\\|", "a", "", "b")
	checkBoth(t, "xay", "[a]", "x", "y")
	checkBoth(t, "a]b", "[]]", "a", "b")
}

// P10.1: a match is the leftmost one, and the longest of these, behind the one ahead.
func TestLongest(t *testing.T) {
	checkBoth(t, "xaby", "a|ab", "x", "y")
	checkBoth(t, "xaby", "ab|a", "x", "y")
	checkBoth(t, "xabcy", "bcy|ab", "x", "cy")
	checkBoth(t, "xabcbcy", "a(bc)*", "x", "y")
	checkBoth(t, "xabcbcy", "a|a(bc)*y", "x", "")
	checkBoth(t, "aaaaa", "aa", "", "", "a")
	checkBoth(t, "ababab", "aba", "", "bab")
	checkBoth(t, "xaaay", "a{2}|a", "x", "", "y")
}

// P10.1: empty matches part nothing; behind them the next one that isn't empty is looked for, at the longest.
func TestEmptyMatches(t *testing.T) {
	checkBoth(t, "xay", "a*", "x", "y")
	checkBoth(t, "xyz", "a*", "xyz")
	checkBoth(t, "aaxaay", "a*", "", "x", "y")
	checkBoth(t, "xaa", "a*", "x", "")
	checkBoth(t, "abc", "()", "abc")
	checkBoth(t, "abc", "||", "abc")
	checkBoth(t, "abc", "^$", "abc")
	checkBoth(t, "abc", "^|$", "abc")
	checkBoth(t, "abc", "|b", "a", "c")
	checkBoth(t, "xabaab", "(ab)*", "x", "a", "")
	checkBoth(t, "xababy", "(ab)*", "x", "y")
	checkBoth(t, "baab", "(aab|)", "b", "")
	checkBoth(t, "abab", "(ba)?", "a", "b")
	checkBoth(t, "aaa", "a?", "", "", "", "")
	checkBoth(t, "a", "b?a?b?", "", "")
}

// P10.1: the beginning and the end of an expression are those of the whole text.
func TestEdges(t *testing.T) {
	checkBoth(t, "aab", "^a|x", "", "ab")
	checkBoth(t, "axa", "^a|x", "", "", "a")
	checkBoth(t, "aba", "a$", "ab", "")
	checkBoth(t, "aa", "a$", "a", "")
	checkBoth(t, "ab", "^a|^b", "", "b")
	checkBoth(t, "ab", "b$|a$", "a", "")
	checkBoth(t, "a", "^a$", "", "")
	checkSplit(t, "a\na", "^a", true, "", "", "a")
	checkSplit(t, "a\na", "a$", true, "a", "", "")
	checkSplit(t, "a\na", "^a", false, "", "\na")
	checkSplit(t, "a\na", "a$", false, "a\n", "")
}

// P10.1: with lines a byte 10 parts fields, too, by an expression; the leftmost, longest of both.
func TestExpressionsWithLines(t *testing.T) {
	checkSplit(t, "a--b\nc", "--", false, "a", "b\nc")
	checkSplit(t, "a--b\nc", "--", true, "a", "b", "c")
	checkSplit(t, "\na\n\nb\n", "--", true, "", "a", "", "b", "")
	checkSplit(t, "\n", "--", true, "", "")
	checkSplit(t, "a\n--b", "--", true, "a", "", "b")
	checkSplit(t, "a--\nb", "--", true, "a", "", "b")
	checkSplit(t, "a\n\nb", "x\n|\ny", true, "a", "", "b")
	checkSplit(t, "ax\nb\nyc\nd", "x\n|\ny", true, "a", "b", "c", "d")
	checkSplit(t, "a-\n-b", "-\n-", true, "a", "b")
	checkSplit(t, "a-\nb", "-\n-", true, "a-", "b")
	checkSplit(t, "a-\n-\n-b", "-\n-", true, "a", "", "-b")
	checkSplit(t, "a\n\n\nb", "\n\n", true, "a", "", "b")
	checkSplit(t, "a\n\n\nb", "\n\n", false, "a", "\nb")
	checkSplit(t, "a\n\n\nb", "\n+", true, "a", "b")
	checkSplit(t, "a\nb", "a*", true, "", "", "b")
	checkSplit(t, "b\nab\n", "a*", true, "b", "", "b", "")
	checkSplit(t, "a\nb", "()", true, "a", "b")
	checkSplit(t, "a\nb", "()", false, "a\nb")
	checkSplit(t, "a\nb|c", "x|y", true, "a", "b|c")
	checkSplit(t, "a\nbxc", "x|", true, "a", "b", "c")
}

// checkNone asks for no fields of whatever text by sep.
func checkNone(t *testing.T, sep string) {
	t.Helper()
	for _, s := range []string{"", "a", "a b\nc", sep} {
		for _, lines := range []bool{false, true} {
			if l, ok := Split(s, sep, lines); ok || l != nil {
				t.Errorf("fields of %q by %.60q, %v: %q", s, sep, lines, l)
			}
			if r, ok := New(s, sep, lines); ok || r != nil {
				t.Errorf("a record of %q by %.60q, %v", s, sep, lines)
			}
		}
	}
}

// P10.1: nothing and false by what is longer than a byte and no expression, of the empty text, too.
func TestNoExpression(t *testing.T) {
	for _, sep := range []string{"((", "a)", "(a", ")(", "a)|(b", "[a", "[z-a]", "[[:nope:]]", "**", "*a", "a|*", "a{2,1}", "a{256}", "a\\", "\\\\\\", " *)", "(a{255}){255}"} {
		checkNone(t, sep)
	}
	checkNone(t, strings.Repeat("a", api.MaxEre+1))
	checkNone(t, strings.Repeat("(", api.MaxDeep+1)+"a"+strings.Repeat(")", api.MaxDeep+1))
}

// P10.1: one byte is never used as an expression.
func TestOneByteIsNone(t *testing.T) {
	for _, sep := range []string{"(", ")", "[", "]", "{", "}", "*", "+", "?", "\\", "^", "$", ".", "|"} {
		checkBoth(t, "a"+sep+"b", sep, "a", "b")
		checkBoth(t, "ab", sep, "ab")
	}
}

// P10.1: the greatest and the deepest expressions part fields, with lines, too.
func TestGreatestExpressions(t *testing.T) {
	for size := api.MaxEre - 3; size <= api.MaxEre; size++ {
		sep := strings.Repeat("a", size)
		checkSplit(t, "x"+sep+"ay\nz", sep, false, "x", "ay\nz")
		checkSplit(t, "x"+sep+"ay\nz", sep, true, "x", "ay", "z")
	}
	for deep := api.MaxDeep - 1; deep <= api.MaxDeep; deep++ {
		sep := strings.Repeat("(", deep) + "a" + strings.Repeat(")", deep)
		checkSplit(t, "xay\nz", sep, false, "x", "y\nz")
		checkSplit(t, "xay\nz", sep, true, "x", "y", "z")
	}
}

// P10.1: an expression that is deeper than any machine's, as groups of empty groups can make it, gives no fields either.
func TestTooDeepExpression(t *testing.T) {
	nested := func(deep int) string {
		return strings.Repeat("(()", deep) + "x()" + strings.Repeat("*", 1990) + strings.Repeat(")", deep)
	}
	checkBoth(t, "axb", nested(5), "a", "b")
	checkNone(t, nested(50))
}
