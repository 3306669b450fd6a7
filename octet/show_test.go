package octet

import (
	"fmt"
	"strings"
	"testing"
	"unicode/utf8"

	"tedder/sample"
)

// shown is a text, and how Show has it.
type shown struct{ in, want string }

func checkShown(t *testing.T, cases []shown) {
	t.Helper()
	for _, c := range cases {
		if got := Show(c.in); got != c.want {
			t.Errorf("Show(%q) is %s, not %s", c.in, got, c.want)
		}
	}
}

// P1.1: Show of what a reader may meet.
func TestShow(t *testing.T) {
	checkShown(t, []shown{
		{"", ""},
		{"plain text ~", "plain text ~"},
		{"\n", `\012`},
		{"a\tb\r\x00\x1f", `a\011b\015\000\037`},
		{`say "hi"`, `say \"hi\"`},
		{`a\b`, `a\\b`},
		{`\"`, `\\\"`},
		{"\x7f", `\177`},
		{"<U+00E9>", "<U+00E9>"},
		{"\u00e9\u20ac", "<U+00E9><U+20AC>"},
		{"x\u00e9y", "x<U+00E9>y"},
	})
}

// P1.1: Show at the edges of runes: those below 160 byte by byte, those from there on by their number.
func TestShowAtEdgesOfRunes(t *testing.T) {
	checkShown(t, []shown{
		{"\u0080", `\302\200`},
		{"\u0085", `\302\205`},
		{"\u009f", `\302\237`},
		{"\u00a0", "<U+00A0>"},
		{"\u07ff\u0800", "<U+07FF><U+0800>"},
		{"\ud7ff\ue000", "<U+D7FF><U+E000>"},
		{"\ufffd", "<U+FFFD>"},
		{"\ufffe\uffff", "<U+FFFE><U+FFFF>"},
		{"\U00010000", "<U+10000>"},
		{"\U0001f600", "<U+1F600>"},
		{"\U0010ffff", "<U+10FFFF>"},
	})
}

// P1.1: Show of bytes that are no right encoding: each stands for itself.
func TestShowOfNoRightEncoding(t *testing.T) {
	checkShown(t, []shown{
		{"\x80", `\200`},
		{"\xff\xfe", `\377\376`},
		{"\xc3", `\303`},
		{"\xc3a", `\303a`},
		{"\xc3\u00e9", `\303<U+00E9>`},
		{"\u00e9\xa9", `<U+00E9>\251`},
		{"\xe2\x82", `\342\202`},
		{"\xef\xbf", `\357\277`},
		{"\xef\xbf\ufffd", `\357\277<U+FFFD>`},
		{"\xff\ufffd", `\377<U+FFFD>`},
		{"\xc0\x80", `\300\200`},
		{"\xc1\xbf", `\301\277`},
		{"\xe0\x9f\xbf", `\340\237\277`},
		{"\xed\xa0\x80", `\355\240\200`},
		{"\xed\xbf\xbf", `\355\277\277`},
		{"\xf0\x8f\xbf\xbf", `\360\217\277\277`},
		{"\xf4\x90\x80\x80", `\364\220\200\200`},
		{"\xf0\x9f\x98", `\360\237\230`},
		{"\xf0\x9f\"\\", `\360\237\"\\`},
	})
}

// firstRune gives how many bytes the rune at the beginning of s has; 0, if none is rightly encoded there.
func firstRune(s string) int {
	for size := 1; size <= 4 && size <= len(s); size++ {
		if utf8.ValidString(s[:size]) {
			return size
		}
	}
	return 0
}

// plainShow says the chapter's words again, one rune or byte at a time.
func plainShow(s string) string {
	var b strings.Builder
	for s != "" {
		size := firstRune(s)
		r := []rune(s[:size])
		switch {
		case s[0] == 34 || s[0] == 92:
			b.WriteString("\\" + s[:1])
		case s[0] >= 32 && s[0] <= 126:
			b.WriteString(s[:1])
		case size > 0 && r[0] >= 160:
			fmt.Fprintf(&b, "<U+%04X>", r[0])
		default:
			size = 1 // the other bytes of a rune below 160 are no right encoding by themselves
			fmt.Fprintf(&b, "\\%03o", s[0])
		}
		s = s[size:]
	}
	return b.String()
}

// P1.1: Show of each byte, each pair of bytes, and each rune.
func TestShowOfEachByteAndRune(t *testing.T) {
	var texts []string
	texts = append(texts, sample.Texts(sample.AllBytes(), 2)...)
	for r := range rune(utf8.MaxRune + 1) {
		texts = append(texts, string(r))
	}
	for _, s := range texts {
		if got, want := Show(s), plainShow(s); got != want {
			t.Fatalf("Show(%q) is %s, not %s", s, got, want)
		}
	}
}

// hardTexts gives texts of bytes that begin, go on and break encodings, and of those that Show writes itself, but of no byte 60.
func hardTexts() []string {
	return sample.Texts("\"\\03U+>n\x00\n\x7f\x80\x85\xa0\xbd\xbf\xc2\xe2\xed\xef\xf0", 4)
}

// P1.1: Show of texts in which encodings are broken off.
func TestShowOfHardTexts(t *testing.T) {
	for _, s := range hardTexts() {
		if got, want := Show(s), plainShow(s); got != want {
			t.Fatalf("Show(%q) is %s, not %s", s, got, want)
		}
	}
}

// tellApart asks that what is shown has bytes from 32 to 126 alone, and that no two of texts are shown alike.
func tellApart(t *testing.T, texts []string) {
	t.Helper()
	seen := map[string]string{}
	for _, s := range texts {
		shown := Show(s)
		for i := range len(shown) {
			if shown[i] < 32 || shown[i] > 126 {
				t.Fatalf("Show(%q) has a byte %d", s, shown[i])
			}
		}
		if other, ok := seen[shown]; ok && other != s {
			t.Fatalf("%q and %q are both shown as %s", s, other, shown)
		}
		seen[shown] = s
	}
}

// P1.2: what is shown is plain, and unlike texts without a byte 60 are shown unlike.
func TestShownApart(t *testing.T) {
	tellApart(t, sample.Texts(strings.ReplaceAll(sample.AllBytes(), "<", ""), 2))
	tellApart(t, hardTexts())
	var runes []string
	for r := range rune(utf8.MaxRune + 1) {
		if r != '<' && utf8.ValidRune(r) {
			runes = append(runes, string(r))
		}
	}
	tellApart(t, runes)
}

// P1.2: what is shown of texts with a byte 60 is plain, too, and that byte is as it is.
func TestShownPlainWithByte60(t *testing.T) {
	for c := range 256 {
		s := "<" + string([]byte{byte(c)}) + "<"
		shown := Show(s)
		if shown[0] != '<' || shown[len(shown)-1] != '<' {
			t.Errorf("Show(%q) is %s", s, shown)
		}
		tellApart(t, []string{s})
	}
}
