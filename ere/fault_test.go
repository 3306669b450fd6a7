package ere

import (
	"strings"
	"testing"

	"tedder/api"
)

func checkFaults(t *testing.T, fault int, texts ...string) {
	t.Helper()
	for _, s := range texts {
		checkParse(t, s, api.Ere{}, fault)
	}
}

// P3.1: a ) without its (, a ( without its ).
func TestParenFaults(t *testing.T) {
	checkFaults(t, api.EreParen,
		"(", ")", "((", "))", "(a", "a)", "())", "(()", ")(", "a|)", "(|", "|)", "(a|b", "a|b)", "(a))b", "((a)",
		")*", "a)*", "(a*", `(\)`, `\()`, "([)]", "[(])", "(a{2}", "^)", "($", "({", "{)", "(a)(b")
}

// P3.1: MaxDeep groups within one another are right, one more is not; groups side by side don't count.
func TestDeepGroups(t *testing.T) {
	const deep = api.MaxDeep
	open, shut := strings.Repeat("(", deep), strings.Repeat(")", deep)
	checkParse(t, open+"a"+shut, set("a"), 0)
	checkParse(t, open+"a"+shut+"*", rep(0, -1, set("a")), 0)
	checkParse(t, open+shut+open+"b"+shut, cat(cat(), set("b")), 0)
	checkParse(t, open+"a)(b)"+shut[1:], cat(set("a"), set("b")), 0)
	checkParse(t, open+"[(]"+`\(`+shut, cat(set("("), set("(")), 0)
	if e, fault := Parse(strings.Repeat("()", deep+1)); fault != 0 || len(e.Kids) != deep+1 {
		t.Errorf("groups side by side: %d", fault)
	}
	checkFaults(t, api.EreParen, "("+open+shut+")", "("+open+"a"+shut+")", open+")("+"(", "a|("+open+"*", open+"([", open+`(\`, open+"(")
}

// P3.1: repeats without an atom, and intervals that are none.
func TestRepeatFaults(t *testing.T) {
	checkFaults(t, api.EreRepeat,
		"*", "+", "?", "{1}", "{1,}", "{1,2}", "*a", "|*", "a|*", "a|+b", "a|{2}", "(*)", "(|*a)", "(+", "(?a)", "({3})", "a(*b)",
		"a{1", "a{1,", "a{1,2", "a{12", "a{1x}", "a{1,x}", "a{1,2x}", "a{1 }", "a{ 1}{2 }", "a{1, 2}", "a{1,,2}", "a{1,2,3}", "a{1,-2}", "a{1{", "a{1{2}}", "a{1,2{3}}", "a{1)", "a{1|b", `a{1\}`, "a{1]",
		"a{256}", "a{256,}", "a{0,256}", "a{256,256}", "a{256,1}", "a{999}", "a{1000}", "a{255,256}",
		"a{2,1}", "a{1,0}", "a{255,254}", "a{10,9}",
		"a{18446744073709551616}", "a{18446744073709551617}", "a{0,18446744073709551617}", "a{4294967297}", "a{1,4294967298}", "a{257}", "a{512}", "a{0,512}", "a{65537}", "a{9223372036854775808}",
		"a{"+strings.Repeat("9", 5000)+"}", "a{"+strings.Repeat("9", 5000), "a{1,"+strings.Repeat("8", 5000)+"}", "a{"+strings.Repeat("0", 5000)+"256}",
		"a*{2,1}", "a{2}{1", "[a]{300}", "(a){300}", "^{300}")
}

// P3.1: a \ at the end.
func TestEscapeFaults(t *testing.T) {
	checkFaults(t, api.EreEscape, `\`, `a\`, `\\\`, `(\`, `(a|\`, `a*\`, `[\`, `[^\`, `[a\`, `[]\`, `[a-\`, `[a-c\`, `[a-c-\`, `[[:alpha:]\`, `[\\\`, `[a]\`, `\1\`, `{\`)
}

// P3.1: of several faults the one that is met first.
func TestFirstFault(t *testing.T) {
	checkFaults(t, api.EreParen, ")[", ")*", `)\`, ")(", ")a{300}", `a)[[:nope:]]\`, "(a)){2,1}")
	checkFaults(t, api.EreBracket, "([", "[", "[b-a])", "[b-a]**", `[b-a\`, "([b-a]", "[[:nope:]])*", `[[:nope:\`, `[a\]`, "(((([", "[a)", "[a*{300}", `[[:digit:]-\`)
	checkFaults(t, api.EreRepeat, "*)", "(*", "*[", `*\`, "a{1)", `a{1\`, "a{1[", "(a{2,1}", "a{300})", "(((*")
	checkFaults(t, api.EreEscape, `(\`, `((a\`, `[\`, `a|\`)
}

// P3.1: what is too big has that fault only where it has no other.
func TestBigComesLast(t *testing.T) {
	for _, big := range []string{strings.Repeat("a", api.MaxEre+1), "a{200}{200}", strings.Repeat("a|", api.MaxEre), "(a{255}{255}|b)*", "a{255}{255}{255}{255}{255}{255}{255}{255}{255}"} {
		checkFaults(t, api.EreBig, big, "("+big+")", "()|"+big, big+"|b", "("+big+"){0}", "x"+big+"(y)*z", "("+big+")[a]|()")
		checkFaults(t, api.EreParen, big+")", "("+big, big+"(", big+")*", big+strings.Repeat("(", api.MaxDeep+1)+"*")
		checkFaults(t, api.EreBracket, big+"[", big+"[b-a]", big+"[[:nope:]]*", "("+big+"[")
		checkFaults(t, api.EreRepeat, big+"a{300}", big+"|*", big+"a{2,1})", big+"{1", "("+big+"{300}")
		checkFaults(t, api.EreEscape, big+`\`, big+`[\`, "("+big+`\`)
	}
}

// checkSize asks that s has that size: bytes behind it up to MaxEre in all are right, one more is not.
func checkSize(t *testing.T, s string, size int) {
	t.Helper()
	fits := "(" + s + ")" + strings.Repeat("b", api.MaxEre-size)
	if _, fault := Parse(fits); fault != 0 {
		t.Errorf("%.40q is more than %d", s, size)
	}
	if _, fault := Parse(fits + "b"); fault != api.EreBig {
		t.Errorf("%.40q is less than %d (%d)", s, size, fault)
	}
}

// P3.1: the size of each kind of tree.
func TestSizes(t *testing.T) {
	for s, size := range map[string]int{
		"": 0, "a": 1, ".": 1, "^": 1, "$": 1, "[a-z]": 1, `\n`: 1, "[^a]": 1,
		"ab": 2, "^abc$": 5, "(ab)(cd)": 4, "((a))": 1,
		"|": 1, "a|b": 3, "a|b|c": 4, "a||b": 3, "a|(b|c)": 5, "(a|b)(c|d)": 6,
		"a*": 2, "a+": 3, "a?": 2, "a{0}": 2, "a{1}": 2, "a{2}": 3, "a{0,}": 2, "a{1,}": 3, "a{2,}": 4, "a{0,0}": 2, "a{0,1}": 2, "a{0,7}": 8, "a{3,7}": 8,
		"a{255}": 256, "a{255,}": 257, "a{0,255}": 256,
		"(ab)*": 3, "(ab)+": 5, "(ab){3}": 7, "(a|b){3}": 10, "(a|b){3,}": 13, "ab{3}": 5,
		"a**": 3, "a++": 7, "a{2}{3}": 10, "a*{3}": 7, "(a{2}b){3}": 13,
		"()*": 1, "(){255}": 1, "(){255}{255}": 256, "(()()){9}": 1, "(|){9}": 10,
		strings.Repeat("a", 2000): 2000, strings.Repeat("a|", 1000): 1001, strings.Repeat("a*", 1000): 2000, "a" + strings.Repeat("*", 1999): 2000, "a{7}{249}": 1993, "(" + strings.Repeat("a", 1999) + ")?": 2000,
	} {
		checkSize(t, s, size)
	}
}

// P3.1: parts without a size are right in any number.
func TestManyEmptyParts(t *testing.T) {
	const many = 100000
	checkSize(t, strings.Repeat("()", many), 0)
	checkSize(t, strings.Repeat("|", many), 1)
	e, fault := Parse(strings.Repeat("()", many))
	if fault != 0 || e.Op != "cat" || len(e.Kids) != many {
		t.Errorf("many groups: %s of %d, %d", e.Op, len(e.Kids), fault)
	}
	e, fault = Parse(strings.Repeat("|", many))
	if fault != 0 || e.Op != "alt" || len(e.Kids) != many+1 {
		t.Errorf("many branches: %s of %d, %d", e.Op, len(e.Kids), fault)
	}
	for _, kid := range e.Kids {
		if !same(kid, cat()) {
			t.Fatalf("a branch is %v", kid)
		}
	}
}
