package field

import (
	"regexp"
	"slices"
	"strings"
	"testing"

	"tedder/api"
	"tedder/ere"
	"tedder/match"
	"tedder/sample"
)

// plainSplit says the chapter's words again: place by place, a separator or not.
func plainSplit(s, sep string, lines bool) []string {
	if s == "" {
		return nil
	}
	var fields []string
	switch {
	case sep == "":
		for _, c := range []byte(s) {
			fields = append(fields, string([]byte{c}))
		}
		return fields
	case sep == " ":
		s = strings.NewReplacer("\t", " ", "\n", " ").Replace(s)
		for _, run := range strings.Split(s, " ") {
			if run != "" {
				fields = append(fields, run)
			}
		}
		return fields
	case len(sep) == 1 && lines:
		return strings.Split(strings.ReplaceAll(s, "\n", sep), sep)
	case len(sep) == 1:
		return strings.Split(s, sep)
	}
	if lines {
		sep = "(" + sep + ")|\n"
	}
	from := 0
	m := machineOf(sep)
	for i := 0; i < len(s); {
		size := sizeAt(m, s, i)
		if size == 0 {
			i++
			continue
		}
		fields = append(fields, s[from:i])
		i += size
		from = i
	}
	return append(fields, s[from:])
}

// machineOf gives the machine of a right expression.
func machineOf(text string) *match.Machine {
	tree, _ := ere.Parse(text)
	return match.New(tree)
}

// sizeAt gives how long m's longest match is that begins right at a place; 0, if there is none.
func sizeAt(m *match.Machine, s string, i int) int {
	if place, size, ok := m.Find(s, i); ok && place == i {
		return size
	}
	return 0
}

// checkPlain asks for the fields of s that the chapter's words tell.
func checkPlain(t *testing.T, s, sep string) {
	t.Helper()
	for _, lines := range []bool{false, true} {
		want := plainSplit(s, sep, lines)
		if got, ok := Split(s, sep, lines); !ok || !slices.Equal(got, want) {
			t.Fatalf("%q by %q, %v: %q, %v, not %q", s, sep, lines, shown(got), ok, shown(want))
		}
	}
}

// P10.1: the fields of all small texts are what the chapter's words tell.
func TestSmallTexts(t *testing.T) {
	texts := sample.Texts("ab\n ", 5)
	for _, sep := range []string{"", " ", "\n", "a", "b", "c", "ab", "aa", "a*", "b+", "(ab)*", "a|ab", "^a", "a$", "^a|b", "b|a$", "^|b", "$|b", "()", "^$", "\n\n", "\n*", "a\n", "\nb", "a\nb|\n", "(a|\n)*b", "a?b?", "[^a]", "[^a\n]+", "..", ".*", "  ", " *", "^ +| +$", "a{2}|\n$", "x|"} {
		for _, s := range texts {
			checkPlain(t, s, sep)
		}
	}
	for _, s := range sample.Texts("a \t\n\r\v\x00\xa0", 4) {
		checkPlain(t, s, " ")
		checkPlain(t, s, "\t")
	}
}

// mixed gives a text of at most most of the parts, and what is left of the bits.
func mixed(parts []string, most int, bits []uint64) (string, []uint64) {
	s := ""
	for range int(bits[0]>>40) % (most + 1) {
		bits = bits[1:]
		s += parts[int(bits[0]>>40)%len(parts)]
	}
	return s, bits[1:]
}

// P10.1: the fields of longer texts by mixed expressions are what the chapter's words tell.
func TestMixedExpressions(t *testing.T) {
	inExpression := []string{"a", "b", "ab", "[ab]", "[^a]", ".", "^", "$", "|", "|", "(", ")", "*", "+", "?", "{2}", "{1,3}", "\n", ":", "\\n", "(a|b)*", "(ab|a)", "()"}
	inText := []string{"a", "a", "b", "b", "\n", ":", "c", "ab"}
	bits := sample.Bits(200000)
	right, wrong := 0, 0
	for len(bits) > 100 {
		var s, sep string
		sep, bits = mixed(inExpression, 8, bits)
		s, bits = mixed(inText, 25, bits)
		if _, fault := ere.Parse(sep); fault != 0 && len(sep) > 1 {
			wrong++
			checkNone(t, sep)
			continue
		}
		right++
		checkPlain(t, s, sep)
	}
	if right < 1000 || wrong < 1000 {
		t.Errorf("%d right separators, %d wrong ones", right, wrong)
	}
}

// P10.1: by expressions without empty matches the fields are what the library's own parting gives.
func TestOtherSplit(t *testing.T) {
	bits := sample.Bits(60000)
	for _, sep := range []string{"ab", "a+", "[ab]", "a|ab", "ab|a|aba", "(a|b)+", "a.c", "[^abc]", "b(ca)*", "^a|c", "a$|b", "a{2,3}", "(ab|c){2}", ": *", "\n|a"} {
		plain := regexp.MustCompile("(?s)" + sep)
		withLines := regexp.MustCompile("(?s)(" + sep + ")|\n")
		plain.Longest()
		withLines.Longest()
		for range 150 {
			var s string
			s, bits = mixed([]string{"a", "b", "c", "ab", ":", " ", "\n"}, 20, bits)
			if s == "" {
				continue
			}
			checkSplit(t, s, sep, false, plain.Split(s, -1)...)
			checkSplit(t, s, sep, true, withLines.Split(s, -1)...)
		}
	}
}

// plainRecord is a record told by the chapter's words.
type plainRecord struct {
	line   string
	fields []string
}

// change makes n fields, and the line of them.
func (p *plainRecord) change(n int, ofs string) {
	fields := make([]string, n)
	copy(fields, p.fields)
	p.fields = fields
	p.line = ""
	for i, s := range fields {
		if i > 0 {
			p.line += ofs
		}
		p.line += s
	}
}

// set says the words of Set again.
func (p *plainRecord) set(i int, s, ofs string) bool {
	if i < 1 || i > api.MaxFields && i > len(p.fields) {
		return false
	}
	if i > len(p.fields) {
		p.change(i, ofs)
	}
	p.fields[i-1] = s
	p.change(len(p.fields), ofs)
	return true
}

// setNF says the words of SetNF again.
func (p *plainRecord) setNF(n int, ofs string) bool {
	if n < 0 || n > api.MaxFields && n > len(p.fields) {
		return false
	}
	p.change(n, ofs)
	return true
}

// P10.1, P10.2: after any calls in any order records are what the chapter's words make of them.
func TestManyCalls(t *testing.T) {
	texts := []string{"", "x", "a b", ":", "\n", "long text", "\xff"}
	joints := []string{" ", "", ":", ", ", "\n"}
	lines := []string{"", "a", "a b c", strings.Repeat("y ", 998), strings.Repeat("z ", 1005)}
	bits := sample.Bits(6000)
	for k, line := range lines {
		r := made(t, line, " ")
		p := &plainRecord{line, plainSplit(line, " ", false)}
		for _, b := range bits[k*1200 : k*1200+600] {
			n := int(b>>40%12) - 2
			if b>>50%8 == 0 {
				n = len(p.fields) + n
			}
			if b>>53%64 == 0 {
				n += 996
			}
			s, ofs := texts[b>>16%uint64(len(texts))], joints[b>>24%uint64(len(joints))]
			var got, want bool
			if b>>30%4 == 0 {
				got, want = r.SetNF(n, ofs), p.setNF(n, ofs)
			} else {
				got, want = r.Set(n, s, ofs), p.set(n, s, ofs)
			}
			if got != want {
				t.Fatalf("%d of %d fields: %v", n, len(p.fields), got)
			}
			checkRecord(t, r, p.line, p.fields...)
		}
	}
}
