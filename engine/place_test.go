package engine

import (
	"strings"
	"testing"

	"tedder/api"
)

// P14.1: what is put somewhere, and what the value is.
func TestAssignments(t *testing.T) {
	checkBegins(t, []sourced{
		{"print x = 5, x; print x = y = \"a\", x y; print a[1] = 2, a[1]", "5 5|a aa|2 2|"},
		{"x = 7; print x += 2, x -= 1, x *= 3, x /= 4, x %= 4, x ^= 3, x", "9 8 24 6 2 8 8|"},
		{"x = \"3a\"; print x += \"4b\", x; y += 1; z -= 1; w *= 1; v ^= 0; print y, z, w, v", "7 7|1 -1 0 1|"},
		{"x = 5; print x++, x, ++x, x--, --x, x; print y++, z--, ++v, --w", "5 6 7 7 5 5|0 0 1 -1|"},
		{"x = \"3x\"; print x++, x; y = \"a\"; print ++y, y--, y", "3 4|1 1 0|"},
		{"a[1] = \"5\"; print a[1]++, --a[1], a[1] += 2, a[1], ++a[2]", "5 5 7 7 1|"},
		{"x = -0.5; print x++, x", "-0.5 0.5|"},
		{"x = y; print length(x), x == 0, x == \"\"; x = \"\"; print x == 0", "0 1 1|0|"},
		{"$3 = \"x\"; print ($3 = 5) + 1, $0, ($0 = \"a b\") \"c\", NF", "6   5 a bc 2|"},
		{"print NF = 2.9, NF, ++NF, NF--, NF; print NF += 1.5, NF", "2.9 2 3 3 2|3.5 3|"},
	})
	checkPrograms(t, []sourced{
		// What is put keeps what it is: a text from outside that looks like a number compares as one.
		{"{ x = $1; a[1] = $1; y = x = a[1]; print x < 9, y < 9, (x = $1) < 9, (x \"\") < 9 }", "0 0 0 1|"},
		{"{ $2 = $1; print $2 < 9; $2 = \"10\"; print $2 < 9; $0 = \"10\"; print $1 < 9; print ($1 = \"10\") < 9 }", "0|0|0|1|"},
		{"{ $1 += 5; print; $2++; print; print $3 -= 1, $0 }", "15|15 1|-1 15 1 -1|"},
	}, "10")
}

// P14.1: fields, NF, and the line that they make.
func TestFields(t *testing.T) {
	checkPrograms(t, []sourced{
		{"{ $2 = \"x\"; print; print NF; $5 = 1; print; NF = 1; print; print NF }", "a x c|3|a x c  1|a|1|"},
		{"{ $0 = \"x  y\"; print NF, $2; $1 = $1; print; $0 = $0 \" z\"; print NF, $3 }", "2 y|x y|3 z|"},
		{"{ OFS = \"-\"; print $0; print $1, $2; $1 = $1; print; NF = NF; print; NF = 2; print; $4 = \"\"; print; print $3 == \"\", $4 == \"\", NF }", "a b  c|a-b|a-b-c|a-b-c|a-b|a-b--|1-1-4|"},
		{"{ OFS = \"\"; NF = 3; print; OFS = \"::\"; print; $2 = $2; print }", "abc|abc|a::b::c|"},
		{"{ OFS = 7; $1 = $1; print; NF = NF; print }", "a7b7c|a7b7c|"},
		{"{ NF = 0; print; print NF; $0 = \"\"; print NF; NF = \"2x\"; print; print length }", "|0|0| |1|"},
		{"{ NF++; print $0 \"|\"; NF -= 3; print; NF = -0.5; print NF }", "a b c ||a|0|"},
		{"{ $3.9 = \"x\"; $\"1y\" = \"z\"; $(0.5) = $0 \" w\"; print; print NF }", "z b x w|4|"},
		{"{ $9; print NF, $9; $7 = $8; print NF }", "3 |7|"},
		{"{ $(NF + 2) = NF; print; print NF; print $NF }", "a b c  3|5|3|"},
		{"{ $1 = \"p q\"; print NF, $1, $2; $0 = $0; print NF, $1 }", "3 p q b|4 p|"},
		{"{ $1 = \"\"; print; print NF; $0 = $0; print NF }", " b c|3|2|"},
		{"{ $1000 = \"\"; print NF, length } ", "!length"},
		{"{ OFS = \"\"; $1000 = \"x\"; print NF, length, $1000; NF = 999; print NF, length; NF = 1000; print NF }", "10004x|9993|1000|"},
		{"{ $0 = NF; print; print NF; $0 = 1 / 4; print }", "3|1|0.25|"},
	}, "a b  c")
	checkBegins(t, []sourced{
		{"print NF, $0; $2 = \"x\"; print; print NF", "0 | x|2|"},
		{"NF = 3; print; print NF", "  |3|"},
	})
	checkPrograms(t, []sourced{{"{ $2 = \"x\" } END { print; print NF; $1 = \"y\"; print; NF = 1; print }", "c x|2|y x|y|"}}, "a b", "c")
}

// P14.1: by which texts a record is parted.
func TestSeparators(t *testing.T) {
	checkPrograms(t, []sourced{
		{"BEGIN { FS = \":\" } { print NF, $2 }", "3  b|1 |"},
		{"BEGIN { FS = \"\" } { print NF, $3 }", "7  |2 |"},
		{"BEGIN { FS = \"[: ]+\" } { print NF, $2, $3 }", "4 b c|1  |"},
		{"{ FS = \":\"; print NF, $2 }", "2 b:c|1 |"},
		{"{ FS = \":\"; $0 = $0; print NF, $2; FS = \" \" }", "3  b|1 |"},
		{"BEGIN { FS = 1 } { print NF; $0 = \"a1b\"; print $2 }", "1|b|1|b|"},
		{"BEGIN { FS = \":\"; OFS = \"+\"; $3 = 1; print; $0 = \"a:b\"; print $2 }", "++1|b|"},
	}, "a: b:c ", "xy")
	const lines = "a:b\nc d:\ne"
	checkPrograms(t, []sourced{
		{"{ print NF }", "4|"},
		{"BEGIN { RS = \"\" } { print NF }", "4|"},
		{"BEGIN { FS = \":\" } { print NF }", "3|"},
		{"BEGIN { FS = \":\"; RS = \"\" } { print NF, $3, $4 == \"\"; RS = \"x\"; $0 = $0; print NF; RS = x; $0 = $0; print NF }", "5 c d 1|3|5|"},
		{"BEGIN { FS = \"[:d]+\"; RS = \"\" } { print NF, $2, $3 $4 $5 }", "5 b c e|"},
		{"BEGIN { RS = \"\" } { $0 = \"a:b\\nc\"; FS = \":\"; print NF; $0 = $0; print NF; print split($0, a), split($0, b, \":\"), split($0, c, /:/); RS = 0; print split($0, a), split($0, b, \":\") }", "2|3|3 3 3|2 2|"},
	}, lines)
}

// P14.1: faults of fields: none is put, where none may be.
func TestFieldFaults(t *testing.T) {
	checkFaults(t, "field", "x = $(-1)", "x = $1001", "$(-1) = 1", "$1001 = 1", "$(-1)++", "--$1001", "$1001 += 1", "NF = -1", "NF = 1001", "NF--", "--NF", "NF -= 1",
		"x = $(1e300)", "$(1e300) = 1", "x = $(log1 = 1e300 * 1e300)", "y = 1e300 * 1e300; x = $(y - y)", "y = 1e300 * 1e300; $(y - y) = 1", "y = 1e300 * 1e300; NF = y", "y = 1e300 * 1e300; NF = y - y", "y = 1e300 * 1e300; NF = -y",
		"sub(/x/, \"y\", $(-1))", "gsub(/x/, \"y\", $1001)", "x = $\"-1x\"", "a[1001]; for (NF in a) print", "a[-1]; for (NF in a) print", "x = $2147483648", "x = $4294967297", "$4294967297 = 1", "NF = 4294967297", "NF = -4294967295")
	checkBegins(t, []sourced{{"x = $1000; $1000; y = $(-0.9); NF = -0.9; NF = 0; print $1000", "|"}})
}

// P14.1: texts that are too long: what is of as many bytes as may be isn't.
func TestLengths(t *testing.T) {
	lim := api.Limits{Ticks: 100, Depth: 10, Length: 5}
	for _, p := range []sourced{
		{"x = \"abc\" \"de\"; print x", "abcde|"},
		{"x = \"abc\" \"def\"; print x", "!length"},
		{"x = \"abcdef\"; print x, substr(x, 1), toupper(x), x = x", "abcdef abcdef ABCDEF abcdef|"},
		{"x = \"abcdef\" \"\"", "!length"},
		{"x = 12345 6", "!length"},
		{"print sprintf(\"%5s\", 1); print sprintf(\"%6s\", 1)", "    1|!length"},
		{"printf \"%200s\", 1; print \"abc\", \"def\"", strings.Repeat(" ", 199) + "1abc def|"},
		{"s = \"abcd\"; print sub(/c/, \"xy\", s), s; print sub(/c/, \"xyz\", s)", "1 abxyd|0|"},
		{"s = \"abcd\"; print sub(/c/, \"xyz\", s)", "!length"},
		{"s = \"aaa\"; print gsub(/a/, \"&&\", s)", "!length"},
		{"s = \"aaa\"; print gsub(/b*/, \"-\", s)", "!length"},
		{"s = \"abcdef\"; print sub(/x/, \"\", s)", "!length"},
		{"s = \"abcdef\"; print sub(/a/, \"\", s), s", "1 bcdef|"},
		{"a[\"abcde\"]; print \"abcde\" in a; a[\"abcdef\"]", "1|!length"},
		{"print \"abcdef\" in a", "!length"},
		{"delete a[\"abcdef\"]", "!length"},
		{"a[12, 34]; a[12, 345]", "!length"},
		{"a[\"abcdef\"] = 1", "!length"},
		{"print (12, 345) in a", "!length"},
		{"SUBSEP = \"\"; a[12, 345]; SUBSEP = \"abcd\"; a[1, \"\"]; a[1, 2]", "!length"},
		{"$1 = \"abcde\"; print; $1 = \"abcdef\"; print", "abcde|!length"},
		{"$3 = \"abc\"; print; $2 = \"d\"", "  abc|!length"},
		{"$6 = \"\"; print length; NF = 7", "5|!length"},
		{"OFS = \"abc\"; $2 = \"de\"; print; NF = 3", "abcde|!length"},
		{"$0 = \"abcdefg\"; print; print $1; NF = 2", "abcdefg|abcdefg|!length"},
		{"$0 = \"abcdefg\"; NF = 0; print length", "0|"},
		{"split(\"abcdefg hijklmn\", a); print a[1], length(a[2])", "abcdefg 7|"},
		{"x = substr(\"abcdefgh\", 1, 7); y = tolower(\"ABCDEFGH\"); print x, y, length(y)", "abcdefg abcdefgh 8|"},
		{"print \"x\" > \"abcdefgh\"; print \"abcdefgh\" ~ \"abcdefg\"", "1|[abcdefgh:x|]"},
		{"return1 = 1234567; print return1 + 1, return1 == \"1234567\"", "1234568 1|"},
	} {
		if got := played(t, "BEGIN { "+p.source+" }", lim); got != p.want {
			t.Errorf("%s\n%s\nnot\n%s", p.source, got, p.want)
		}
	}
	if got := played(t, "{ print; print $2; $2 = \"\"; print \"no\" }", lim, "abcdef ghijkl"); got != "abcdef ghijkl|ghijkl|!length" {
		t.Error(got)
	}
}
