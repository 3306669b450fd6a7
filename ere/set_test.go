package ere

import (
	"slices"
	"strings"
	"testing"

	"tedder/api"
	"tedder/sample"
)

// sorted gives the bytes of s, rising, each once.
func sorted(s string) string {
	b := []byte(s)
	slices.Sort(b)
	return string(slices.Compact(b))
}

// without gives all bytes but those of s.
func without(s string) string {
	var b []byte
	for c := range 256 {
		if strings.IndexByte(s, byte(c)) < 0 {
			b = append(b, byte(c))
		}
	}
	return string(b)
}

// checkSets asks for the sets of what stands between [ and ], and of the same with ^.
func checkSets(t *testing.T, cases map[string]string) {
	t.Helper()
	for items, want := range cases {
		checkParse(t, "["+items+"]", set(sorted(want)), 0)
		checkParse(t, "[^"+items+"]", set(without(want)), 0)
	}
}

// P3.1: items that are bytes.
func TestSetsOfBytes(t *testing.T) {
	checkSets(t, map[string]string{
		"a":        "a",
		"cab":      "abc",
		"aba":      "ab",
		"]":        "]",
		"]a":       "]a",
		"a^":       "a^",
		"[":        "[",
		"[a":       "[a",
		"a[":       "a[",
		"[.a.":     "[.a",
		"[=a=":     "[=a",
		":":        ":",
		":alpha:":  ":alph",
		"a:":       "a:",
		"(|)*+?.$": "(|)*+?.$",
		"{1,2}":    "{1,2}",
		"\n\x00":   "\n\x00",
		"\u00e9":   "\xc3\xa9",
		"/":        "/",
	})
	checkParse(t, "[^^]", set(without("^")), 0)
	checkParse(t, "[a^]", set("^a"), 0)
	checkParse(t, `[\^a]`, set("^a"), 0)
	checkParse(t, "[]]", set("]"), 0)
	checkParse(t, "[^]]", set(without("]")), 0)
	checkParse(t, "[a]]", cat(set("a"), set("]")), 0)
	checkParse(t, "[]a]]", cat(set("]a"), set("]")), 0)
	checkParse(t, "[[.a.]]", cat(set(".[a"), set("]")), 0)
	checkParse(t, "[ab][cd]", cat(set("ab"), set("cd")), 0)
}

// P3.1: items behind a \ within a set.
func TestSetsOfEscapes(t *testing.T) {
	checkSets(t, map[string]string{
		`\a\b\f\n\r\t\v`: "\x07\x08\x09\x0a\x0b\x0c\x0d",
		`\]x`:            "]x",
		`x\]`:            "]x",
		`\\`:             `\`,
		`\\\]`:           `\]`,
		`\-`:             "-",
		`a\-z`:           "-az",
		`\[:alpha:`:      "[:alph",
		`\/`:             "/",
		`\141`:           "a",
		`\1411`:          "a1",
		`\18`:            "\x018",
		`\541`:           "a",
		`\d`:             "d",
	})
}

// P3.1: ranges, and when a - is a byte.
func TestSetsOfRanges(t *testing.T) {
	checkSets(t, map[string]string{
		"a-c":       "abc",
		"a-a":       "a",
		"a-cx-z":    "abcxyz",
		"c-ea-d":    "abcde",
		"0-9_":      "0123456789_",
		"-":         "-",
		"-a":        "-a",
		"a-":        "-a",
		"a-c-":      "-abc",
		"-a-c":      "-abc",
		"-a-":       "-a",
		"--":        "-",
		"---":       "-",
		"+--":       "+,-",
		"--/":       "-./",
		"+--a":      "+,-a",
		"a-c-e":     "-abce",
		"a-c--/":    "abc-./",
		"]-a":       "]^_`a",
		"Z-[":       "Z[",
		"[-^":       `[\]^`,
		"!-#":       "!\"#",
		`\141-\143`: "abc",
		`\a-\t`:     "\x07\x08\x09",
		`+-\-`:      "+,-",
		`\--/`:      "-./",
		`Z-\]`:      `Z[\]`,
		`\\-\]`:     `\]`,
		`\\-`:       `\-`,
		`\[-a`:      "[\\]^_`a",
		"\x00-\xff": sample.AllBytes(),
		`\0-\377`:   sample.AllBytes(),
		"\xfe-\xff": "\xfe\xff",
		"\x7f-\x81": "\x7f\x80\x81",
		`\n-\r`:     "\n\v\f\r",
		`a-\143`:    "abc",
		`\141-c`:    "abc",
		`\^-a`:      "^_`a",
		`$-&`:       "$%&",
	})
	checkParse(t, "[a-]]", cat(set("-a"), set("]")), 0)
	checkParse(t, "[^-a]", set(without("-a")), 0)
	checkParse(t, "[^--/]", set(without("-./")), 0)
	checkParse(t, `[^\0-\377]`, set(""), 0)
	checkParse(t, `[^\1-\377]`, set("\x00"), 0)
}

// classBytes gives the bytes of each class.
func classBytes() map[string]string {
	const upper, lower, digits = "ABCDEFGHIJKLMNOPQRSTUVWXYZ", "abcdefghijklmnopqrstuvwxyz", "0123456789"
	const punct = "!\"#$%&'()*+,-./:;<=>?@[\\]^_`{|}~"
	return map[string]string{
		"alpha":  upper + lower,
		"digit":  digits,
		"alnum":  digits + upper + lower,
		"upper":  upper,
		"lower":  lower,
		"space":  "\t\n\v\f\r ",
		"blank":  "\t ",
		"punct":  punct,
		"print":  " " + punct + digits + upper + lower,
		"graph":  punct + digits + upper + lower,
		"cntrl":  sample.AllBytes()[:32] + "\x7f",
		"xdigit": digits + "ABCDEFabcdef",
	}
}

// P3.1: each class, alone and beside other items.
func TestSetsOfClasses(t *testing.T) {
	for name, want := range classBytes() {
		class := "[:" + name + ":]"
		checkSets(t, map[string]string{
			class:               want,
			class + "-":         want + "-",
			"-" + class:         want + "-",
			"]" + class:         want + "]",
			class + "a-c":       want + "abc",
			"a-c" + class:       want + "abc",
			"a-c-" + class:      want + "abc-",
			class + "\x80:[":    want + "\x80:[",
			"[" + class:         want + "[",
			class + class:       want,
			class + `\]\-\a`:    want + "]-\a",
			class + "[:blank:]": want + "\t ",
		})
	}
	checkParse(t, "[:alpha:]", set(":ahlp"), 0)
	checkParse(t, "[[:digit:]]]", cat(set("0123456789"), set("]")), 0)
	checkParse(t, "[[:digit:]]+", rep(1, -1, set("0123456789")), 0)
}

// P3.1: sets that are none.
func TestBracketFaults(t *testing.T) {
	for _, s := range []string{
		"[", "[^", "[]", "[^]", "[a", "[^a", "[]a", "[a-", "[a-c", "[-", "[a]|[b", "a[", "([", "([a)",
		`[\]`, `[a\]`, `[]\]`, "[a[",
		"[b-a]", "[a-Z]", "[z-a", "[a--]", "[a-[]", `[a-\]]`, `[\143-\141]`, "[\xff-\x00]", "[^b-a]", "[ab-a]", "[a-cb-a]", "[a-c--!]",
		"[[:alpha:]-z]", "[[:alpha:]--]", "[[:alpha:]-[:digit:]]", "[a-[:digit:]]", "[a-c[:digit:]-e]", "[--[:digit:]]", "[[:alpha:]-", "[a-[:nope:]]", "[a-[:]",
		"[[:nope:]]", "[[::]]", "[[:Alpha:]]", "[[:alpha :]]", "[[: alpha:]]", "[[:alph:]]", "[[:alphaa:]]", "[[:^alpha:]]", "[[:word:]]", "[[:ascii:]]", "[[:nope:]-z]",
		"[[:]", "[[:]]", "[[:alpha", "[[:alpha:", "[[:alpha]", "[[:alpha]]", "[[:alpha:x]]", "[[:alpha]:]]", "[[:alpha\\:]]", "[[:\\", "[[:alpha:]", "[^[:alpha:]", "[[:digit:][:]",
	} {
		checkParse(t, s, api.Ere{}, api.EreBracket)
	}
}
