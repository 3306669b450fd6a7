package syntax

import (
	"strings"
	"testing"
)

// P6.1: operands.
func TestOperands(t *testing.T) {
	checkPatterns(t, []source{
		{"1", "num:1"},
		{"007.50e+3", "num:007.50e+3"},
		{`"a\tb"`, "str:a\tb"},
		{`""`, "str"},
		{"/a b/", "ere:a b"},
		{"a", "var:a"},
		{"NF", "var:NF"},
		{"(a)", "group(var:a)"},
		{"((a))", "group(group(var:a))"},
		{"(a = b)", "group(assign:=(var:a var:b))"},
		{"a[1]", "elem:a(num:1)"},
		{"a [ 1 ]", "elem:a(num:1)"},
		{"a[b, c, 1]", "elem:a(var:b var:c num:1)"},
		{"a[b[c]]", "elem:a(elem:b(var:c))"},
		{"a[b = c]", "elem:a(assign:=(var:b var:c))"},
		{"$1", "field(num:1)"},
		{"$a", "field(var:a)"},
		{"$a[1]", "field(elem:a(num:1))"},
		{"$$$1", "field(field(field(num:1)))"},
		{`$"1"`, "field(str:1)"},
		{"$(a b)", "field(group(bin:cat(var:a var:b)))"},
		{"$f(a)", "field(call:f(var:a))"},
		{"$length", "field(built:length)"},
		{"$int(a)", "field(built:int(var:a))"},
		{"$++a", "field(pre:++(var:a))"},
		{"$--a[1]", "field(pre:--(elem:a(num:1)))"},
		{"$++$a", "field(pre:++(field(var:a)))"},
		{"$++$--a", "field(pre:++(field(pre:--(var:a))))"},
		{"$a ^ 2", "bin:^(field(var:a) num:2)"},
		{"$a b", "bin:cat(field(var:a) var:b)"},
		{"f()", "call:f"},
		{"f( )", "call:f"},
		{"f(a)", "call:f(var:a)"},
		{"f(a, g(b), c)", "call:f(var:a call:g(var:b) var:c)"},
		{"f(a = b, c ? d : e)", "call:f(assign:=(var:a var:b) cond(var:c var:d var:e))"},
		{"f((a))", "call:f(group(var:a))"},
		{"f (a)", "bin:cat(var:f group(var:a))"},
		{"f[g(a)]", "elem:f(call:g(var:a))"},
		{"(a, b) in c", "in:c(var:a var:b)"},
		{"(a, b c, (d)) in e", "in:e(var:a bin:cat(var:b var:c) group(var:d))"},
		{"((a, b) in c)", "group(in:c(var:a var:b))"},
		{"((a, b) in c, d) in e", "in:e(in:c(var:a var:b) var:d)"},
		{"$(a, b) in c", "field(in:c(var:a var:b))"},
		{"a (b, c) in d e", "bin:cat(bin:cat(var:a in:d(var:b var:c)) var:e)"},
		{"-(a, b) in c ^ 2 * 3", "bin:*(unary:-(bin:^(in:c(var:a var:b) num:2)) num:3)"},
		{"(a, b) in c in d", "in:d(in:c(var:a var:b))"},
	})
	checkNoStatements(t, "()", "a[]", "a[", "a]", "a[1", "a[1)", "(1]", "[1]", "1[2]", "(a)[1]", "a[1][2]", "$1[2]", "f(1)[2]", "a[1;2]", "a[,1]", "a[1,]", "a[1,,2]", "(a", "a)", "(a,)", "(,a)", "(a, b)", "((a, b))", "(a, b) in", "(a, b) in 1", "(a, b) in (c)", "(a, b) in $c", "(a, b) in \"c\"", "(a, b) in length", "(a, b), c in d", "(a, b) c", "(a, b) ~ c", "$", "$$", "$-1", "$!a", "$+a", "$++1", "$++f(a)", "$++(a)", "$++ ++a", "$)", "$a++ = 1", "$in", "f(", "f(a", "f(a,)", "f(,a)", "f(a b", "f(a;b)", "f(a]", "f((a, b))", "a[(1, 2)]", "((a, b)) in c", ",", "*", "/", "in", "=", "~", "a,")
}

// P6.1: ++ and -- stand at places alone.
func TestSteps(t *testing.T) {
	checkPatterns(t, []source{
		{"a++", "post:++(var:a)"},
		{"a--", "post:--(var:a)"},
		{"++a", "pre:++(var:a)"},
		{"-- a", "pre:--(var:a)"},
		{"a[1]++", "post:++(elem:a(num:1))"},
		{"--a[1]", "pre:--(elem:a(num:1))"},
		{"$1++", "post:++(field(num:1))"},
		{"++$1", "pre:++(field(num:1))"},
		{"$a++", "post:++(field(var:a))"},
		{"$$a--", "post:--(field(field(var:a)))"},
		{"$++a--", "post:--(field(pre:++(var:a)))"},
		{"++$++a", "pre:++(field(pre:++(var:a)))"},
		{"++$$a", "pre:++(field(field(var:a)))"},
		{"$(a)++", "post:++(field(group(var:a)))"},
		{"a++ b", "bin:cat(post:++(var:a) var:b)"},
		{"a ++b", "bin:cat(post:++(var:a) var:b)"},
		{"a++ ++b", "bin:cat(post:++(var:a) pre:++(var:b))"},
		{"a++ --b", "bin:cat(post:++(var:a) pre:--(var:b))"},
		{"++a++b", "bin:cat(pre:++(var:a) pre:++(var:b))"},
		{"++a--b", "bin:cat(pre:++(var:a) pre:--(var:b))"},
		{"1++a", "bin:cat(num:1 pre:++(var:a))"},
		{"(a)++b", "bin:cat(group(var:a) pre:++(var:b))"},
		{"f(a)--b", "bin:cat(call:f(var:a) pre:--(var:b))"},
		{"length++a", "bin:cat(built:length pre:++(var:a))"},
		{"a+++b", "bin:+(post:++(var:a) var:b)"},
		{"a++ + ++b", "bin:+(post:++(var:a) pre:++(var:b))"},
		{"a+ ++b", "bin:+(var:a pre:++(var:b))"},
		{"a---b", "bin:-(post:--(var:a) var:b)"},
		{"-a--", "unary:-(post:--(var:a))"},
		{"!--a", "unary:!(pre:--(var:a))"},
		{"- -a", "unary:-(unary:-(var:a))"},
		{"a++^2", "bin:^(post:++(var:a) num:2)"},
		{"++a^--b", "bin:^(pre:++(var:a) pre:--(var:b))"},
		{"$a++ $++b", "bin:cat(post:++(field(var:a)) field(pre:++(var:b)))"},
	})
	checkNoStatements(t, "++", "--", "a++ ++", "++a++", "++ ++a", "++a--", "a++--", "1++", "++1", "--\"a\"", "/a/++", "(a)++", "++(a)", "f()++", "++f()", "++f(a)", "length--", "--length", "++-a", "++!a", "+++a", "++a ++", "(a, b) in c++", "a++ = 1", "++a = 1", "$++", "++$", "++$++", "a ++ ++ ++ b")
}

// P6.1: signs, ! and powers.
func TestSignsAndPowers(t *testing.T) {
	checkPatterns(t, []source{
		{"-1", "unary:-(num:1)"},
		{"+a", "unary:+(var:a)"},
		{"!a", "unary:!(var:a)"},
		{"!!a", "unary:!(unary:!(var:a))"},
		{"-!+a", "unary:-(unary:!(unary:+(var:a)))"},
		{"2^3", "bin:^(num:2 num:3)"},
		{"2^3^4", "bin:^(num:2 bin:^(num:3 num:4))"},
		{"(2^3)^4", "bin:^(group(bin:^(num:2 num:3)) num:4)"},
		{"-2^2", "unary:-(bin:^(num:2 num:2))"},
		{"!a^b", "unary:!(bin:^(var:a var:b))"},
		{"2^-3", "bin:^(num:2 unary:-(num:3))"},
		{"2^+-3", "bin:^(num:2 unary:+(unary:-(num:3)))"},
		{"2^-3^2", "bin:^(num:2 unary:-(bin:^(num:3 num:2)))"},
		{"2^-3^-4", "bin:^(num:2 unary:-(bin:^(num:3 unary:-(num:4))))"},
		{"2^-3*4", "bin:*(bin:^(num:2 unary:-(num:3)) num:4)"},
		{"2^a b", "bin:cat(bin:^(num:2 var:a) var:b)"},
		{"-2 3", "bin:cat(unary:-(num:2) num:3)"},
		{"-a * -b", "bin:*(unary:-(var:a) unary:-(var:b))"},
		{"a * !b", "bin:*(var:a unary:!(var:b))"},
		{"a - -b", "bin:-(var:a unary:-(var:b))"},
		{"-$a", "unary:-(field(var:a))"},
		{"a^b++", "bin:^(var:a post:++(var:b))"},
		{"!a ~ b", "bin:~(unary:!(var:a) var:b)"},
		{"!/a/", "unary:!(ere:a)"},
		{"! a in b", "in:b(unary:!(var:a))"},
	})
	checkNoStatements(t, "!", "-", "+", "a !b", "2^", "^2", "2^!3", "2^-!3", "2^+!a", "2^*3", "a ^ ^ b", "a ^= ", "-", "- -", "!-", "a !", "a -", "a * / b", "a ! ~ b")
}

// P6.1: what is joined by ops, from the tightest to the loosest.
func TestLevels(t *testing.T) {
	checkPatterns(t, []source{
		{"a * b / c % d", "bin:%(bin:/(bin:*(var:a var:b) var:c) var:d)"},
		{"a + b - c + d", "bin:+(bin:-(bin:+(var:a var:b) var:c) var:d)"},
		{"a + b * c - d / e", "bin:-(bin:+(var:a bin:*(var:b var:c)) bin:/(var:d var:e))"},
		{"a * b ^ c", "bin:*(var:a bin:^(var:b var:c))"},
		{"a b c", "bin:cat(bin:cat(var:a var:b) var:c)"},
		{"a b + c", "bin:cat(var:a bin:+(var:b var:c))"},
		{"a + b c", "bin:cat(bin:+(var:a var:b) var:c)"},
		{"a -1", "bin:-(var:a num:1)"},
		{"a (-1)", "bin:cat(var:a group(unary:-(num:1)))"},
		{"a -b c", "bin:cat(bin:-(var:a var:b) var:c)"},
		{"1 2", "bin:cat(num:1 num:2)"},
		{`a "b"`, "bin:cat(var:a str:b)"},
		{"a $1", "bin:cat(var:a field(num:1))"},
		{"a f(b)", "bin:cat(var:a call:f(var:b))"},
		{"a length", "bin:cat(var:a built:length)"},
		{"length a", "bin:cat(built:length var:a)"},
		{"a int(b) c", "bin:cat(bin:cat(var:a built:int(var:b)) var:c)"},
		{"a ++b c", "bin:cat(bin:cat(post:++(var:a) var:b) var:c)"},
		{"a < b", "bin:<(var:a var:b)"},
		{"a <= b", "bin:<=(var:a var:b)"},
		{"a == b", "bin:==(var:a var:b)"},
		{"a != b", "bin:!=(var:a var:b)"},
		{"a > b", "bin:>(var:a var:b)"},
		{"a >= b", "bin:>=(var:a var:b)"},
		{"a b == c d", "bin:==(bin:cat(var:a var:b) bin:cat(var:c var:d))"},
		{"a + 1 > -b", "bin:>(bin:+(var:a num:1) unary:-(var:b))"},
		{"(a < b) < c", "bin:<(group(bin:<(var:a var:b)) var:c)"},
		{"a ~ b", "bin:~(var:a var:b)"},
		{"a !~ b ~ c", "bin:~(bin:!~(var:a var:b) var:c)"},
		{"a ~ /b/ ~ c < d", "bin:~(bin:~(var:a ere:b) bin:<(var:c var:d))"},
		{"a == b ~ c == d", "bin:~(bin:==(var:a var:b) bin:==(var:c var:d))"},
		{"a in b", "in:b(var:a)"},
		{"a in b in c", "in:c(in:b(var:a))"},
		{"a ~ b in c", "in:c(bin:~(var:a var:b))"},
		{"a < b in c", "in:c(bin:<(var:a var:b))"},
		{"(a in b) c", "bin:cat(group(in:b(var:a)) var:c)"},
		{"a && b", "bin:&&(var:a var:b)"},
		{"a && b && c", "bin:&&(bin:&&(var:a var:b) var:c)"},
		{"a in b && c in d", "bin:&&(in:b(var:a) in:d(var:c))"},
		{"a || b || c", "bin:||(bin:||(var:a var:b) var:c)"},
		{"a || b && c || d", "bin:||(bin:||(var:a bin:&&(var:b var:c)) var:d)"},
		{"!a && !b || c", "bin:||(bin:&&(unary:!(var:a) unary:!(var:b)) var:c)"},
		{"a ? b : c", "cond(var:a var:b var:c)"},
		{"a || b ? c : d", "cond(bin:||(var:a var:b) var:c var:d)"},
		{"a ? b : c ? d : e", "cond(var:a var:b cond(var:c var:d var:e))"},
		{"a ? b ? c : d : e", "cond(var:a cond(var:b var:c var:d) var:e)"},
		{"a ? b = c : d = e", "cond(var:a assign:=(var:b var:c) assign:=(var:d var:e))"},
		{"a ? b : c in d", "cond(var:a var:b in:d(var:c))"},
		{"(a ? b : c) d", "bin:cat(group(cond(var:a var:b var:c)) var:d)"},
		{"a / b / c", "bin:/(bin:/(var:a var:b) var:c)"},
	})
	checkNoStatements(t, "a +", "a *", "* a", "a / ", "a % % b", "a < b < c", "a == b != c", "a > b > c", "a <", "< a", "a < < b", "a ~", "~ a", "a ~ ~ b", "a in", "a in 1", "a in (b)", "a in $b", "a in b[1]", "a in length", "a in b c", "a in b + c", "a in b ~ c", "a in b < c", "a in b++", "a in f(b)", "in b", "a &&", "&& a", "a && && b", "a || && b", "a ||", "a ? b", "a ? b :", "a ? : b", "a : b", "? b : c", "a ? b, c : d", "a ? b : c : d", "a ? b ; c : d")
}

// P6.1: assignments, to places alone.
func TestAssignments(t *testing.T) {
	for _, op := range strings.Fields("= += -= *= /= %= ^=") {
		checkPatterns(t, []source{
			{"a " + op + " b", "assign:" + op + "(var:a var:b)"},
			{"a[1]" + op + "b", "assign:" + op + "(elem:a(num:1) var:b)"},
			{"$1" + op + "b", "assign:" + op + "(field(num:1) var:b)"},
			{"$++a" + op + "b", "assign:" + op + "(field(pre:++(var:a)) var:b)"},
			{"a" + op + "b" + op + "c = d", "assign:" + op + "(var:a assign:" + op + "(var:b assign:=(var:c var:d)))"},
			{"a " + op + " b ? c : d", "assign:" + op + "(var:a cond(var:b var:c var:d))"},
			{"a " + op + " b c < d", "assign:" + op + "(var:a bin:<(bin:cat(var:b var:c) var:d))"},
			{"(a " + op + " b) c", "bin:cat(group(assign:" + op + "(var:a var:b)) var:c)"},
			{"a[b " + op + " c] " + op + " d", "assign:" + op + "(elem:a(assign:" + op + "(var:b var:c)) var:d)"},
		})
		for _, s := range []string{"1", `"a"`, "(a)", "f(a)", "length", "-a", "!a", "a++", "--a", "a b", "1 a", "a + b", "a * b", "a ^ b", "-$a", "a < b", "a ~ b", "a in b", "(a, b) in c", "a && b", "a || b", "a ? b : c + d", "a ? b : 1", "c = a b", "c = a = 1", "", "a " + op} {
			checkNoStatements(t, s+" "+op+" d", s+" "+op, s+" "+op+" d = e")
		}
	}
}

// P6.1: ends of lines stand where told, in parentheses, too, and nowhere else.
func TestLinesInExpressions(t *testing.T) {
	for _, lines := range []string{"\n", "\n\n", " # x\n \n"} {
		put := func(s string) string { return strings.ReplaceAll(s, "|n", lines) }
		for _, c := range []source{
			{"a &&|nb", "bin:&&(var:a var:b)"},
			{"a |||nb &&|n c", "bin:||(var:a bin:&&(var:b var:c))"},
			{"a ?|nb :|nc", "cond(var:a var:b var:c)"},
			{"(a &&|nb)", "group(bin:&&(var:a var:b))"},
			{"(a ?|nb :|nc)", "group(cond(var:a var:b var:c))"},
			{"a[b,|nc]", "elem:a(var:b var:c)"},
			{"(a,|nb,|nc) in d", "in:d(var:a var:b var:c)"},
			{"f(a,|nb)", "call:f(var:a var:b)"},
			{"substr(a,|nb,|nc)", "built:substr(var:a var:b var:c)"},
		} {
			checkPatterns(t, []source{{put(c.text), c.tree}})
		}
		for _, s := range []string{"(|na)", "(a|n)", "(a|n&& b)", "(a|n|| b)", "(a|n? b : c)", "(a ? b|n: c)", "a[|nb]", "a[b|n]", "a[b|n, c]", "f(|na)", "f(a|n)", "f(|n)", "f(a|n, b)", "(a, b|n) in c", "(|na, b) in c", "(a, b)|n in c", "(a, b) in|n c", "a in|n b", "(a|n in b)", "(a +|n b)", "(a|n+ b)", "(a|n b)", "a =|n b", "(a|n= b)", "a ~|n b", "a <|n b", "-|na", "!|na", "$|na", "++|na", "a ^|n b", "length(|n)", "f(|n)", "f(a,|n)"} {
			checkNone(t, put(s), put("{"+s+"}"), put("{ x = ("+s+") }"))
		}
	}
	checkNone(t, "a && ; b", "a ||\n; b", "a ? ;b : c", "f(a,\n;b)", "a[1,;2]")
	checkTrees(t, []source{
		{"a\n++b", "rule(var:a none) rule(pre:++(var:b) none)"},
		{"a\n-b", "rule(var:a none) rule(unary:-(var:b) none)"},
		{"a\n(b)", "rule(var:a none) rule(group(var:b) none)"},
		{"a\\\n+\\\nb", "rule(bin:+(var:a var:b) none)"},
	})
}
