package input

import (
	"fmt"
	"regexp"
	"strconv"
	"strings"
	"testing"

	"tedder/lex"
	"tedder/sample"
)

// checkOperand asks for an assignment of that text to that name.
func checkOperand(t *testing.T, s, name, text string) {
	t.Helper()
	if n, x, ok := Operand(s); n != name || x != text || !ok {
		t.Errorf("%.60q: %.60q, %.60q, %v, not %.60q, %.60q", s, n, x, ok, name, text)
	}
}

// checkNone asks that none of them is an assignment.
func checkNone(t *testing.T, texts ...string) {
	t.Helper()
	for _, s := range texts {
		if name, text, ok := Operand(s); name != "" || text != "" || ok {
			t.Errorf("%.60q: %.60q, %.60q, %v, not none", s, name, text, ok)
		}
	}
}

// P15.1: what stands ahead of the first = is a name, of any letters, digits and _, with no digit first.
func TestNames(t *testing.T) {
	for _, name := range []string{"x", "Z", "_", "__", "a1", "_1", "aB_9z", "e5", "in", "BEGIN", "length", "getline", "ARGV", "func", "NF", "FS", strings.Repeat("n", 1<<17)} {
		checkOperand(t, name+"=", name, "")
		checkOperand(t, name+"=1", name, "1")
		checkOperand(t, name+"==", name, "=")
		checkOperand(t, name+"=y=z", name, "y=z")
		checkOperand(t, name+"= 1 ", name, " 1 ")
		checkNone(t, name, name+" =1", " "+name+"=1", "1"+name+"=1", name+"+=1", name+".=1", name+"\n=1", "./"+name+"=1", name+"[1]=1", "$"+name+"=1", "-v"+name, "\""+name+"\"=1", name+"\\=1")
	}
	checkNone(t, "", "=", "==", "=1", "=x", "1", "1=", "9=9", "-", "--", "input.txt", "dir/x=1", "\u00e9=1", "a\u00e9=1", "a\xff=1", "a-b=1", "x:=1", "x ", "x,y=1")
}

// P15.1: of each byte, whether a name may begin with it, and have it.
func TestBytesInNames(t *testing.T) {
	const letters, digits = "abcdefghijklmnopqrstuvwxyzABCDEFGHIJKLMNOPQRSTUVWXYZ_", "0123456789"
	for c := range 256 {
		s := string([]byte{byte(c)})
		if strings.Contains(letters, s) {
			checkOperand(t, s+"=t", s, "t")
		} else {
			checkNone(t, s+"=t", s+"a=t")
		}
		switch {
		case strings.Contains(letters+digits, s):
			checkOperand(t, "a"+s+"=t", "a"+s, "t")
			checkOperand(t, "_"+s+"b=t", "_"+s+"b", "t")
		case s == "=":
			checkOperand(t, "a"+s+"=t", "a", "=t")
		default:
			checkNone(t, "a"+s+"=t", "_"+s+"b=t")
		}
	}
}

// P15.1: the text is what it stands for between quotes.
func TestTexts(t *testing.T) {
	for text, want := range map[string]string{
		"":             "",
		"1":            "1",
		" a b\t":       " a b\t",
		"#/'$%":        "#/'$%",
		"\x00\xff\r":   "\x00\xff\r",
		`a\tb`:         "a\tb",
		`\a\b\f\n\r`:   "\a\b\f\n\r",
		`\t\v`:         "\t\v",
		`\"`:           `"`,
		`\\`:           `\`,
		`\/`:           `/`,
		`\q`:           `\q`,
		`\8\9`:         `\8\9`,
		`\x41`:         `\x41`,
		`\=`:           `\=`,
		`\.\*`:         `\.\*`,
		"\\\xff":       "\\\xff",
		`\1`:           "\x01",
		`\12`:          "\n",
		`\012`:         "\n",
		`\101`:         "A",
		`\1012`:        "A2",
		`\0`:           "\x00",
		`\000`:         "\x00",
		`\0000`:        "\x000",
		`\18`:          "\x018",
		`\128`:         "\n8",
		`\377`:         "\xff",
		`\400`:         "\x00",
		`\501`:         "A",
		`\777`:         "\xff",
		`\1\1`:         "\x01\x01",
		`\1a`:          "\x01a",
		`\\101`:        `\101`,
		`\\\101`:       `\A`,
		`\\n`:          `\n`,
		`\\\\`:         `\\`,
		`\q\"\101`:     `\q"A`,
		`a\"b\"c`:      `a"b"c`,
		`\"=\"`:        `"="`,
		"\\\u00e9":     "\\\u00e9",
		"getline @ & ": "getline @ & ",
	} {
		checkOperand(t, "x="+text, "x", want)
		checkOperand(t, "x=ab"+text, "x", "ab"+want)
		checkOperand(t, "x="+text+"-z", "x", want+"-z")
	}
}

// P15.1: a byte 34 or 10 stands for itself, and so does a \ at the end or directly before a byte 10.
func TestBareBytes(t *testing.T) {
	for text, want := range map[string]string{
		`"`:              `"`,
		`"a"`:            `"a"`,
		`a"b`:            `a"b`,
		`\""`:            `""`,
		"\n":             "\n",
		"a\nb\n":         "a\nb\n",
		"\n\n":           "\n\n",
		"\\":             "\\",
		"a\\":            "a\\",
		"\\\n":           "\\\n",
		"a\\\nb":         "a\\\nb",
		"\\\n\\\n":       "\\\n\\\n",
		"\\\n\\":         "\\\n\\",
		"\\\\\n":         "\\\n",
		"\\\\\\\n":       "\\\\\n",
		"\\\\\\":         "\\\\",
		"\\\\\\\\\\":     "\\\\\\",
		"a\"b\n=c\\":     "a\"b\n=c\\",
		"\\t\\":          "\t\\",
		"\\1\n":          "\x01\n",
		"\\1\\":          "\x01\\",
		"\\12\"\\\n\\n":  "\n\"\\\n\n",
		"\"\\\"\\":       "\"\"\\",
		"\\q\\\n\\q":     "\\q\\\n\\q",
		"\\101\\\n\\102": "A\\\nB",
	} {
		checkOperand(t, "x="+text, "x", want)
		checkOperand(t, "x=y="+text, "x", "y="+want)
	}
}

// P15.1: each byte, bare, behind a \, and behind two.
func TestBytesInTexts(t *testing.T) {
	const letters, bytes = `abfnrtv"\/`, "\x07\x08\x0c\x0a\x0d\x09\x0b\"\\/"
	for c := range 256 {
		s := string([]byte{byte(c)})
		want := `\` + s
		if i := strings.IndexByte(letters, byte(c)); i >= 0 {
			want = bytes[i : i+1]
		} else if '0' <= c && c <= '7' {
			want = string([]byte{byte(c) - '0'})
		}
		checkOperand(t, `x=a\`+s+"z", "x", "a"+want+"z")
		checkOperand(t, `x=\`+s, "x", want)
		if s != `\` {
			checkOperand(t, "x="+s, "x", s)
			checkOperand(t, "x=a"+s+"z", "x", "a"+s+"z")
			checkOperand(t, `x=\\`+s+"z", "x", `\`+s+"z")
		}
	}
}

// P15.1: all numbers of up to three digits of base 8 behind a \.
func TestOctalInTexts(t *testing.T) {
	for n := range 512 {
		c := string([]byte{byte(n % 256)})
		checkOperand(t, fmt.Sprintf(`x=\%03o`, n), "x", c)
		checkOperand(t, fmt.Sprintf(`x=\%03o7\`, n), "x", c+`7\`)
		checkOperand(t, fmt.Sprintf(`x=\%o`, n), "x", c)
		checkOperand(t, fmt.Sprintf(`x=\%o9`, n), "x", c+"9")
		checkOperand(t, fmt.Sprintf("x=\\%o\"\n", n), "x", c+"\"\n")
	}
}

// plainOperand says the chapter's words again by patterns, over texts of no byte above 127.
func plainOperand(s string) (string, string, bool) {
	parts := regexp.MustCompile(`(?s)\A([A-Za-z_][A-Za-z_0-9]*)=(.*)\z`).FindStringSubmatch(s)
	if parts == nil {
		return "", "", false
	}
	text := regexp.MustCompile(`(?s)\\([0-7]{1,3}|.)`).ReplaceAllStringFunc(parts[2], func(escape string) string {
		if n, err := strconv.ParseInt(escape[1:], 8, 0); err == nil {
			return string([]byte{byte(n % 256)})
		}
		meant := map[string]string{`"`: `"`, `\`: `\`, "/": "/", "a": "\a", "b": "\b", "f": "\f", "n": "\n", "r": "\r", "t": "\t", "v": "\v"}[escape[1:]]
		if meant == "" {
			return escape
		}
		return meant
	})
	return parts[1], text, true
}

// checkPlainOperand asks for what the chapter's words tell.
func checkPlainOperand(t *testing.T, s string) {
	t.Helper()
	if name, text, ok := plainOperand(s); ok {
		checkOperand(t, s, name, text)
	} else {
		checkNone(t, s)
	}
}

// P15.1: all small operands are what the chapter's words tell.
func TestSmallOperands(t *testing.T) {
	for _, s := range sample.Texts("x1= ", 6) {
		checkPlainOperand(t, s)
	}
	for _, s := range sample.Texts("\\\n\"n17q", 5) {
		checkPlainOperand(t, "x="+s)
	}
}

// P15.1: what a str may stand between quotes, an operand's text stands for, too, but for a \ and a byte 10.
func TestOperandsLikeStrs(t *testing.T) {
	count := 0
	for _, s := range sample.Texts("\\\"a8/07", 5) {
		tokens, ok := lex.Lex(`"` + s + `"`)
		if ok && len(tokens) == 1 {
			checkOperand(t, "_1="+s, "_1", tokens[0].Text)
			count++
		}
	}
	if count < 1000 {
		t.Errorf("%d strs", count)
	}
}
