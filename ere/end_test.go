package ere

import (
	"strings"
	"testing"

	"tedder/api"
	"tedder/sample"
)

// P0: Parse ends and doesn't panic at long texts, and tells what they are.
func TestLongTexts(t *testing.T) {
	const many = 1 << 18
	for part, fault := range map[string]int{
		"a": api.EreBig, "^": api.EreBig, ".": api.EreBig, "a*": api.EreBig, "a|": api.EreBig, "]": api.EreBig, `\\`: api.EreBig, "[a]": api.EreBig, "[]": api.EreBig, "(a)": api.EreBig, "{": api.EreBig, "\xff": api.EreBig, "()*": api.EreBig,
		"(": api.EreParen, ")": api.EreParen, "(a|": api.EreParen, "a)": api.EreParen,
		"[": api.EreBracket, "[a": api.EreBracket, "[:": api.EreBracket, "[^": api.EreBracket, "[a-": api.EreBracket, "[[:alpha:]": api.EreBracket, "[[:": api.EreBracket, "[][": api.EreBracket,
		"*": api.EreRepeat, "a{1": api.EreRepeat, "{1}": api.EreRepeat,
	} {
		if e, got := Parse(strings.Repeat(part, many)); got != fault || !same(e, api.Ere{}) {
			t.Errorf("many %q: %d", part, got)
		}
	}
	for part, fault := range map[string]int{"*": api.EreBig, "{255}": api.EreBig, "{255,}": api.EreBig, "{0}": api.EreBig, "1": api.EreBig, `\141`: api.EreBig, "(": api.EreParen, "{1": api.EreRepeat} {
		if e, got := Parse("a" + strings.Repeat(part, many)); got != fault || !same(e, api.Ere{}) {
			t.Errorf("a and many %q: %d", part, got)
		}
	}
	if e, fault := Parse("[" + strings.Repeat("a-z", many) + "]"); fault != 0 || len(e.Set) != 26 {
		t.Errorf("a long set: %d", fault)
	}
}

// P0: Parse ends and doesn't panic at whatever bytes, and answers the same again.
func TestAnyBytes(t *testing.T) {
	var b []byte
	for _, bits := range sample.Bits(200000) {
		b = append(b, byte(bits>>40))
	}
	for i := 0; i+20 < len(b); i += 7 {
		s := string(b[i : i+int(b[i])%20])
		e, fault := Parse(s)
		checkParse(t, s, e, fault)
		if fault != 0 && !same(e, api.Ere{}) {
			t.Errorf("beside the fault of %q stands %v", s, e)
		}
	}
}

// spoil changes all that e has, and all that room behind its lists has.
func spoil(e *api.Ere) {
	kids := e.Kids[:cap(e.Kids)]
	for i := range kids {
		spoil(&kids[i])
		kids[i] = api.Ere{Op: "spoilt"}
	}
	e.Kids = append(e.Kids, api.Ere{Op: "spoilt"})
}

// R4: what is answered is the caller's own: no other answer changes with it.
func TestOwnAnswers(t *testing.T) {
	for _, s := range []string{"", "()", "a", "ab|c*", "((a|b)*c){2,3}|^$", "()()|()", "(a)(b)(cd)"} {
		first, _ := Parse(s)
		second, _ := Parse(s)
		third, _ := Parse(s)
		spoil(&first)
		if !same(second, third) {
			t.Errorf("an answer to %q changes with another", s)
		}
		checkParse(t, s, third, 0)
	}
}

// R4: no two lists of one answer share memory.
func TestOwnLists(t *testing.T) {
	e, _ := Parse("(a|b*)(cd|e)|(f|g)h{2}(ij)")
	want, _ := Parse("(a|b*)(cd|e)|(f|g)h{2}(ij)")
	for i := range e.Kids {
		for j := range e.Kids[i].Kids {
			e, _ = Parse("(a|b*)(cd|e)|(f|g)h{2}(ij)")
			spoil(&e.Kids[i].Kids[j])
			e.Kids[i].Kids[j] = want.Kids[i].Kids[j]
			if !same(e, want) {
				t.Errorf("list %d of list %d is shared", j, i)
			}
		}
	}
}
