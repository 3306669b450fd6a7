package lex

import (
	"slices"
	"strings"
	"sync"
	"testing"

	"tedder/api"
	"tedder/sample"
)

// P0: Lex ends and doesn't panic at long texts.
func TestLongTexts(t *testing.T) {
	for _, part := range []string{"a", "a ", ";", "1", "1.", ".", "\"", "\"\\", "/", "/\\", "\\", "\\\n", "#", "#\n", "\n", " ", "&", "|", "+", "1e", "1e+", "\xff", "\x00", "getline", "a/", "/a/", "\"\"", "(", "a("} {
		for _, size := range []int{1 << 13, 1 << 15, api.MaxSource, 1 << 22} {
			s := strings.Repeat(part, size/len(part)+1)[:size]
			l, ok := Lex(s)
			if ok && (len(s) > api.MaxSource || len(l) > api.MaxTokens) || !ok && l != nil {
				t.Errorf("many %q, %d bytes: %d tokens, %v", part, len(s), len(l), ok)
			}
		}
	}
}

// P0: Lex ends and doesn't panic at whatever bytes, and wherever a text is cut off.
func TestAnyBytes(t *testing.T) {
	var b []byte
	for _, bits := range sample.Bits(100000) {
		b = append(b, byte(bits>>40))
	}
	sc := newScanner()
	for i := 0; i+12 < len(b); i += 5 {
		sc.checkPlain(t, string(b[i:i+int(b[i])%12]))
		if t.Failed() {
			return
		}
	}
	const program = "BEGIN { x = \"a\\tb\\\"\\101\\\nc\"; f(1.5e+3, .2) }\n/a\\/[b]/ && $1 /= 2 \\\n { print length / 3 > \"f\" } # end\n"
	for i := range len(program) + 1 {
		sc.checkPlain(t, program[:i])
		sc.checkPlain(t, program[i:])
	}
}

// P0: a program's nil list and false come alone, whatever tokens stand ahead of what is none.
func TestNothingBesideFalse(t *testing.T) {
	for _, ahead := range []string{"", "a", "a + \"b\" /c/ ", strings.Repeat("x;", 9999)} {
		for _, behind := range []string{"@", "\"", ";\"\n\"", ";/", "&", " getline", " system(", "\\", ";.", strings.Repeat(";", 20001), strings.Repeat(" ", 65537)} {
			checkNone(t, ahead+behind)
		}
	}
}

// R4: what is answered is the caller's own: no other answer changes with it.
func TestOwnAnswers(t *testing.T) {
	for _, s := range []string{"a", "a b c", "f(x) \"s\" 1 / 2\n", "/a\\/b/"} {
		first, _ := Lex(s)
		second, _ := Lex(s)
		want := slices.Clone(second)
		first = first[:cap(first)]
		for i := range first {
			first[i] = api.Token{Kind: "spoilt", Text: "spoilt"}
		}
		if !slices.Equal(second, want) {
			t.Errorf("an answer to %q changes with another", s)
		}
		checkLex(t, s, want)
	}
}

// R7: Lex answers the same again, also where several ask at once.
func TestSameAnswers(t *testing.T) {
	texts := []string{"a /b/ c", "~ /b/", "length / 2", "substr /2/", "\"x", "1e+", "", "f(x)++ / 2 / y", "getline"}
	sc := newScanner()
	var all sync.WaitGroup
	for worker := range 8 {
		all.Go(func() {
			for i := range 300 {
				sc.checkPlain(t, texts[(worker*5+i)%len(texts)])
			}
		})
	}
	all.Wait()
}
