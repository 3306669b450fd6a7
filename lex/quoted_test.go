package lex

import (
	"fmt"
	"slices"
	"strings"
	"testing"

	"tedder/api"
)

// P5.1: what a str stands for.
func TestStrs(t *testing.T) {
	for text, meant := range map[string]string{
		"":                     "",
		"a":                    "a",
		"a b\tc":               "a b\tc",
		"a/b#c":                "a/b#c",
		"\x00\xff\r":           "\x00\xff\r",
		"\u00e9":               "\u00e9",
		`\"`:                   `"`,
		`\\`:                   `\`,
		`\/`:                   "/",
		`\a\b\f\n\r\t\v`:       "\x07\x08\x0c\x0a\x0d\x09\x0b",
		`\\n`:                  `\n`,
		`\\\n`:                 "\\\n",
		`\\\\`:                 `\\`,
		`\"\"`:                 `""`,
		`\A\N\x41\.\ \&`:       `\A\N\x41\.\ \&`,
		`\'\[\^\$`:             `\'\[\^\$`,
		"a\\\nb":               "ab",
		"\\\n":                 "",
		"\\\n\\\n1":            "1",
		"1\\\n01":              "101",
		"\\1\\\n01":            "\x0101",
		"\\\\\\\nn":            "\\n",
		"\\\xff":               "\\\xff",
		"\\\x00":               "\\\x00",
		"\\\u00e9":             "\\\u00e9",
		`\101\102`:             "AB",
		`\1`:                   "\x01",
		`\12`:                  "\n",
		`\012`:                 "\n",
		`\0`:                   "\x00",
		`\00`:                  "\x00",
		`\000`:                 "\x00",
		`\0000`:                "\x000",
		`\1234`:                "S4",
		`\377`:                 "\xff",
		`\400`:                 "\x00",
		`\501`:                 "A",
		`\777`:                 "\xff",
		`\7777`:                "\xff7",
		`\18`:                  "\x018",
		`\128`:                 "\n8",
		`\8`:                   `\8`,
		`\9`:                   `\9`,
		`\1\2\3`:               "\x01\x02\x03",
		`\42`:                  `"`,
		`\134n`:                `\n`,
		"a\\tb\\\"\\.\\/\\101": "a\tb\"\\./A",
	} {
		checkAll(t, []source{
			{"\"" + text + "\"", row("str", meant)},
			{"x\"" + text + "\"\"" + text + "\"y", row("name", "x", "str", meant, "str", meant, "name", "y")},
		})
	}
	checkNone(t, `"`, `"a`, `"\`, `"\"`, `"a\\\"`, `"""`, "\"\n\"", "\"a\nb\"", "\"\\\n\n\"", "\"\\\\\n\"", "\"a\n", "a \"b", `"\1`, "\"\\\n")
}

// P5.1: each byte in a str, bare and behind a \.
func TestBytesInStrs(t *testing.T) {
	checkBytes(t, "str", `"a`, `b"`, func(c byte) (string, bool) {
		// A bare \ takes the b along.
		switch c {
		case '"', '\n':
			return "", false
		case '\\':
			return "a\b", true
		}
		return string([]byte{'a', c, 'b'}), true
	})
	checkBytes(t, "str", `"a\`, `b"`, func(c byte) (string, bool) {
		const letters, bytes = `abfnrtv"\/`, "\x07\x08\x0c\x0a\x0d\x09\x0b\"\\/"
		if i := strings.IndexByte(letters, c); i >= 0 {
			return "a" + bytes[i:i+1] + "b", true
		}
		switch {
		case c == '\n':
			return "ab", true
		case '0' <= c && c <= '7':
			return string([]byte{'a', c - '0', 'b'}), true
		}
		return string([]byte{'a', '\\', c, 'b'}), true
	})
}

// P5.1: all numbers of three digits of base 8 behind a \.
func TestOctalInStrs(t *testing.T) {
	for n := range 512 {
		c := string([]byte{byte(n % 256)})
		checkLex(t, fmt.Sprintf(`"\%03o"`, n), row("str", c))
		checkLex(t, fmt.Sprintf(`"\%03o7x"`, n), row("str", c+"7x"))
		checkLex(t, fmt.Sprintf(`"\%ox"`, n), row("str", c+"x"))
	}
}

// P5.1: an ere's text is as it stands, but for \ and a byte 47.
func TestEres(t *testing.T) {
	for text, meant := range map[string]string{
		"":             "",
		"a":            "a",
		" ":            " ",
		"=":            "=",
		"=a":           "=a",
		"#":            "#",
		`"`:            `"`,
		"a b\tc#d\"e":  "a b\tc#d\"e",
		"\x00\xff\r":   "\x00\xff\r",
		`\/`:           "/",
		`a\/b`:         "a/b",
		`\/\/`:         "//",
		`\\`:           `\\`,
		`\\\/`:         `\\/`,
		`\\\\`:         `\\\\`,
		`\\\\\/\\`:     `\\\\/\\`,
		`\n\t\101`:     `\n\t\101`,
		`\"`:           `\"`,
		`\a\.\[\]`:     `\a\.\[\]`,
		"\\\xff":       "\\\xff",
		`[^a-z]+|(b)$`: `[^a-z]+|(b)$`,
		`[\/]`:         "[/]",
	} {
		checkAll(t, []source{
			{"/" + text + "/", row("ere", meant)},
			{"x ~ /" + text + "/;/" + text + "/ /", row("name", "x", "op", "~", "ere", meant, "op", ";", "ere", meant, "op", "/")},
		})
	}
	checkAll(t, []source{
		{"~ /b\\/[/]/", row("op", "~", "ere", "b/[", "op", "]", "op", "/")},
		{"/a//b/", row("ere", "a", "op", "/", "name", "b", "op", "/")},
		{"/a///b/", row("ere", "a", "op", "/", "ere", "b")},
		{"/a////b/", row("ere", "a", "op", "/", "ere", "", "name", "b", "op", "/")},
		{"//=", row("ere", "", "op", "=")},
		{"/a/x", row("ere", "a", "name", "x")},
		{"# /\n/a/", row("nl", "", "ere", "a")},
	})
	checkNone(t, "/", "/a", `/\`, `/\/`, `/a\/`, `/\\\/`, "/\n/", "/a\nb/", "/\\\n/", "/a\\\nb/", "/\\\\\n/", "/=", "~ /=", "a ~ /b\n/", "//\n/")
}

// P5.1: each byte in an ere, bare and behind a \.
func TestBytesInEres(t *testing.T) {
	checkBytes(t, "ere", "/a", "b;/", func(c byte) (string, bool) {
		// Behind an end too early another ere begins, which has none.
		return string([]byte{'a', c, 'b', ';'}), c != '/' && c != '\n'
	})
	checkBytes(t, "ere", `/a\`, "b/", func(c byte) (string, bool) {
		if c == '/' {
			return "a/b", true
		}
		return string([]byte{'a', '\\', c, 'b'}), c != '\n'
	})
}

// P5.1: behind what ends an operand a / divides; behind all else an ere begins.
func TestOperandEnds(t *testing.T) {
	for ahead, tokens := range map[string][]string{
		"1": {"num", "1"}, ".5e1": {"num", ".5e1"}, `"s"`: {"str", "s"}, `""`: {"str", ""}, "a": {"name", "a"}, "_1": {"name", "_1"},
		"length": {"built", "length"}, ")": {"op", ")"}, "]": {"op", "]"}, "$": {"op", "$"}, "++": {"op", "++"}, "--": {"op", "--"},
	} {
		for _, gap := range []string{"", " ", "\t", "\\\n", "  \\\n "} {
			checkAll(t, []source{
				{ahead + gap + "/x/", slices.Concat(row(tokens...), row("op", "/", "name", "x", "op", "/"))},
				{ahead + gap + "/=x/", slices.Concat(row(tokens...), row("op", "/=", "name", "x", "op", "/"))},
				{ahead + gap + "/", slices.Concat(row(tokens...), ops("/"))},
				{ahead + gap + "/=", slices.Concat(row(tokens...), ops("/="))},
				{ahead + gap + "//x/", slices.Concat(row(tokens...), row("op", "/", "ere", "x"))},
				{ahead + gap + "\n/x/", slices.Concat(row(tokens...), row("nl", "", "ere", "x"))},
				{ahead + gap + "#\n/=/", slices.Concat(row(tokens...), row("nl", "", "ere", "="))},
			})
		}
	}
	checkAll(t, []source{
		{"/a/ /x/", row("ere", "a", "op", "/", "name", "x", "op", "/")},
		{"/a/ /=x/", row("ere", "a", "op", "/=", "name", "x", "op", "/")},
		{"+++/x/", slices.Concat(ops("++", "+"), row("ere", "x"))},
		{"---/x/", slices.Concat(ops("--", "-"), row("ere", "x"))},
	})
	for _, s := range strings.Fields("{ } ( [ ; , + - * % ^ ! > >> < ? : ~ !~ = += -= *= %= ^= == <= >= != && ||") {
		checkEreBehind(t, s, row("op", s))
	}
	for _, s := range strings.Fields("BEGIN END function delete in if else while do for break continue next exit return print printf") {
		checkEreBehind(t, s, row("word", s))
	}
	for _, s := range strings.Fields("substr index split sub gsub match sprintf tolower toupper int") {
		checkEreBehind(t, s, row("built", s))
	}
	checkEreBehind(t, "", nil)
	checkEreBehind(t, "\n", row("nl", ""))
	checkEreBehind(t, "a/", row("name", "a", "op", "/"))
	checkEreBehind(t, "a/=", row("name", "a", "op", "/="))
	checkEreBehind(t, "f(", row("func", "f", "op", "("))
}

// checkEreBehind asks that behind s, which is those tokens, an ere begins.
func checkEreBehind(t *testing.T, s string, tokens []api.Token) {
	t.Helper()
	for _, gap := range []string{"", " ", "\t", "\\\n"} {
		checkAll(t, []source{
			{s + gap + "/x/", slices.Concat(tokens, row("ere", "x"))},
			{s + gap + "/=x/", slices.Concat(tokens, row("ere", "=x"))},
			{s + gap + "//", slices.Concat(tokens, row("ere", ""))},
		})
		checkNone(t, s+gap+"/", s+gap+"/=", s+gap+"/x", s+gap+"/\n/")
	}
}
