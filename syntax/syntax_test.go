package syntax

import (
	"slices"
	"strings"
	"testing"

	"tedder/api"
)

// shown gives n for a reader: its Op, Text and Kids.
func shown(n api.Node) string {
	s := n.Op
	if n.Text != "" {
		s += ":" + n.Text
	}
	if len(n.Kids) > 0 {
		s += "(" + shownAll(n.Kids) + ")"
	}
	return s
}

// shownAll gives nodes for a reader.
func shownAll(l []api.Node) string {
	var all []string
	for _, n := range l {
		all = append(all, shown(n))
	}
	return strings.Join(all, " ")
}

// same tells whether two nodes are the same in each field.
func same(a, b api.Node) bool {
	return a.Op == b.Op && a.Text == b.Text && slices.EqualFunc(a.Kids, b.Kids, same)
}

// checkItems asks that Parse answers these items of s.
func checkItems(t *testing.T, s string, items []api.Node) {
	t.Helper()
	if l, ok := Parse(s); !ok || !slices.EqualFunc(l, items, same) {
		t.Errorf("Parse(%.80q) is %.400s, %v, not %.400s", s, shownAll(l), ok, shownAll(items))
	}
}

// checkNone asks that each text is no program.
func checkNone(t *testing.T, texts ...string) {
	t.Helper()
	for _, s := range texts {
		if l, ok := Parse(s); ok || l != nil {
			t.Errorf("Parse(%.80q) is %.400s, %v, not none", s, shownAll(l), ok)
		}
	}
}

// source is a program, and its tree as shown gives it.
type source struct {
	text, tree string
}

// checkTrees asks that Parse answers these trees.
func checkTrees(t *testing.T, cases []source) {
	t.Helper()
	for _, c := range cases {
		if l, ok := Parse(c.text); !ok || shownAll(l) != c.tree {
			t.Errorf("Parse(%.80q) is %.400s, %v, not %.400s", c.text, shownAll(l), ok, c.tree)
		}
	}
}

// checkPatterns asks that Parse answers these trees of expressions that are a rule's pattern.
func checkPatterns(t *testing.T, cases []source) {
	t.Helper()
	for _, c := range cases {
		checkTrees(t, []source{
			{c.text, "rule(" + c.tree + " none)"},
			{"{x = (" + c.text + ")}", "rule(none block(expr(assign:=(var:x group(" + c.tree + ")))))"},
		})
	}
}

// checkStatements asks that Parse answers these trees of what stands in a rule's block.
func checkStatements(t *testing.T, cases []source) {
	t.Helper()
	for _, c := range cases {
		tree := "block"
		if c.tree != "" {
			tree = "block(" + c.tree + ")"
		}
		checkTrees(t, []source{
			{"{" + c.text + "}", "rule(none " + tree + ")"},
			{"{\n;" + c.text + "\n;}", "rule(none " + tree + ")"},
		})
	}
}

// checkNoStatements asks that each text in a rule's block is no program.
func checkNoStatements(t *testing.T, texts ...string) {
	t.Helper()
	for _, s := range texts {
		checkNone(t, "{"+s+"}", "{"+s+"\n}", "x {"+s+" }")
	}
}

// P6.1: the nodes as they are, each field of them.
func TestNodes(t *testing.T) {
	a, one := node("var", "a"), node("num", "1")
	checkItems(t, "", nil)
	checkItems(t, "a", []api.Node{node("rule", "", a, node("none", ""))})
	checkItems(t, "{ a = 1 }\nEND{}", []api.Node{
		node("rule", "", node("none", ""), node("block", "", node("expr", "", node("assign", "=", a, one)))),
		node("END", "", node("block", "")),
	})
	checkItems(t, "{ print a, 1 > \"x y\" }", []api.Node{
		node("rule", "", node("none", ""), node("block", "", node("print", ">", a, one, node("str", "x y")))),
	})
	checkItems(t, "\"\\\"(\\n\" ~ /a\\/(b/", []api.Node{
		node("rule", "", node("bin", "~", node("str", "\"(\n"), node("ere", "a/(b")), node("none", "")),
	})
}

// P6.1: items, with and without patterns and blocks.
func TestItems(t *testing.T) {
	checkTrees(t, []source{
		{"", ""},
		{"\n", ""},
		{" ;\n;; # x\n", ""},
		{"BEGIN{}", "BEGIN(block)"},
		{"END {\n}", "END(block)"},
		{"BEGIN { a } BEGIN { b }", "BEGIN(block(expr(var:a))) BEGIN(block(expr(var:b)))"},
		{"{}", "rule(none block)"},
		{"a", "rule(var:a none)"},
		{"a {}", "rule(var:a block)"},
		{"a\n{}", "rule(var:a none) rule(none block)"},
		{"a;{}", "rule(var:a none) rule(none block)"},
		{"a, b", "range(var:a var:b none)"},
		{"a,\n\nb { c }", "range(var:a var:b block(expr(var:c)))"},
		{"a, b\n{ c }", "range(var:a var:b none) rule(none block(expr(var:c)))"},
		{"a = 1, b c", "range(assign:=(var:a num:1) bin:cat(var:b var:c) none)"},
		{"a; b\nc", "rule(var:a none) rule(var:b none) rule(var:c none)"},
		{";;a;;\n;b;\n", "rule(var:a none) rule(var:b none)"},
		{"{} {}a{}b", "rule(none block) rule(none block) rule(var:a block) rule(var:b none)"},
		{"a {} BEGIN {} function f() {} END {}\nb", "rule(var:a block) BEGIN(block) func:f(params block) END(block) rule(var:b none)"},
		{"x > y", "rule(bin:>(var:x var:y) none)"},
		{"{};{}", "rule(none block) rule(none block)"},
	})
	checkNone(t, "BEGIN", "END", "BEGIN\n{}", "BEGIN;{}", "BEGIN a {}", "END /a/ {}", "BEGIN, END {}", "a BEGIN {}", "a END {}", "a function f() {}", "a,", "a, {}", "a,;b", ", a", "a\n, b", "a, b, c", "a, b, c {}", "{}, {}", "a {}, b", "}", "{", "{{}", "{}}", "a {", "a }", "a ] b", ")", "a )", "function", "else", "in", "a in", "print", "print x", "next", "if (a) {}", "while (a) {}", "do {} while (a)", "for (;;) {}", "exit", "delete a[1]", "getline", "a @ b", "\"a", "a & b")
}

// P6.1: functions, and their parameters.
func TestFunctions(t *testing.T) {
	checkTrees(t, []source{
		{"function f() {}", "func:f(params block)"},
		{"function f () {}", "func:f(params block)"},
		{"function f(a) {}", "func:f(params(var:a) block)"},
		{"function f (a, b)\n\n{ return a b }", "func:f(params(var:a var:b) block(return(bin:cat(var:a var:b))))"},
		{"function f(a,\n\nb,\nc) {}", "func:f(params(var:a var:b var:c) block)"},
		{"function f(f, f) {}\nfunction f() {}", "func:f(params(var:f var:f) block) func:f(params block)"},
		{"function NR(NF) { return }", "func:NR(params(var:NF) block(return))"},
		{"function f() {} f(1)", "func:f(params block) rule(call:f(num:1) none)"},
	})
	checkNone(t, "function f", "function f()", "function f {}", "function f( {}", "function f) {}", "function () {}", "function (a) {}", "function 1() {}", "function length() {}", "function if() {}", "function \"f\"() {}", "function\nf() {}", "function f\n() {}", "function f(,) {}", "function f(a,) {}", "function f(,a) {}", "function f(a b) {}", "function f(a;b) {}", "function f(a\n, b) {}", "function f(\na) {}", "function f(a\n) {}", "function f(\n) {}", "function f(1) {}", "function f(a[1]) {}", "function f($a) {}", "function f((a)) {}", "function f(g()) {}", "function f(length) {}", "function f(in) {}", "function f(a,\n;b) {}", "function f();{}", "function f() a", "function f() {} {", "function f(a, b {}", "func f() {}")
}

// P6.1: what layer 5 says is no program is none, and its limits are the same.
func TestTokens(t *testing.T) {
	checkNone(t, "a @", "\"a", "/a", "a | b", "a &b", "{ getline }", "system(\"x\")", "a; exp(1)", "{ ARGV[1] }", "a.b", "\\", strings.Repeat(" ", api.MaxSource+1), strings.Repeat(";", api.MaxTokens+1))
	checkTrees(t, []source{
		{strings.Repeat(" ", api.MaxSource), ""},
		{strings.Repeat(";", api.MaxTokens), ""},
		{strings.Repeat("n", api.MaxSource), "rule(var:" + strings.Repeat("n", api.MaxSource) + " none)"},
		{"a \\\n+ b # c", "rule(bin:+(var:a var:b) none)"},
	})
}
