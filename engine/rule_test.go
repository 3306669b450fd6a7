package engine

import "testing"

// P14.1: which rules are done, with which records.
func TestRules(t *testing.T) {
	checkPrograms(t, []sourced{
		{"$1 > 1", "2 b|3 c|"},
		{"/b/ { print NR } ; $2 == \"c\"; { print \".\" }; 0; \"\" { print \"no\" }", ".|2|.|3 c|.|"},
		{"x; !x; x = NR - 1", "1 a|2 b|2 b|3 c|3 c|"},
		{"{ $0 = \"z\" } /z/ { print NR }; /a/", "1|2|3|"},
		{"1 { }; BEGIN { print \"b\" }; { print NR } END { print NR, $0 } BEGIN { print \"c\" } END { print \"e\" }", "b|c|1|2|3|3 3 c|e|"},
		{"BEGIN { ORS = \";\"; OFS = \"-\" } NR < 3", "1 a;2 b;"},
		{"BEGIN { ORS = x } 1", "1 a2 b3 c"},
		{"NF = 1", "1|2|3|"},
	}, "1 a", "2 b", "3 c")
}

// P14.1: a range is on from its first pattern to its second one, and asks for no more of them than it needs.
func TestRanges(t *testing.T) {
	checkPrograms(t, []sourced{
		{"/b/, /d/", "b|c|d|b|d|"},
		{"/b/, /b/", "b|b|"},
		{"/b/, /zz/", "b|c|d|a|b|d|"},
		{"/zz/, /b/; /a/, 0 { print NR }", "1|2|3|4|5|6|7|"},
		{"NR == 2, NR == 4 { print NR, $0 } NR == 3, NR == 3 { print \"x\" }", "2 b|3 c|x|4 d|"},
		{"f++ || /c/, t++ % 2 { print f, t }", "2 1|2 2|3 3|3 4|4 5|4 6|"},
		{"/b/, /d/ { next } { print }", "a|a|"},
		{"/b/, /c/ { $0 = \"z\" } /z/, /a/ { print }", "z|z|d|a|z|z|"},
		{"/a/, /c/ { if (NR == 2) exit } { print }", "a|!exit"},
		{"/b/, 1 / ($0 == \"b\")", "b|b|"},
		{"/b/, 1 % ($0 != \"c\") > 1", "b|!div"},
		{"1 % ($0 != \"c\") > 1, 1 { print }", "!div"},
		{"BEGIN { /a/ } ; /c/, /a/; END { print \"e\" }", "c|d|a|e|"},
	}, "a", "b", "c", "d", "a", "b", "d")
	// A range that a fault, next or another rule comes between is kept as it was.
	checkPrograms(t, []sourced{
		{"{ if (NR == 2) next } /a/, /b/", "a|c|b|"},
		{"/a/, /b/ { if (NR == 1) next; print } { print \"-\" }", "b|-|-|-|-|"},
	}, "a", "b", "c", "b", "d")
}
