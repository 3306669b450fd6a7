package engine

import "testing"

// P14.1: functions of texts and numbers.
func TestBuilt(t *testing.T) {
	checkPrints(t, []sourced{
		{`length(""), length("a\377\0"), length(12.50), length(x), length("a") + 1`, "0 3 4 0 2"},
		{`int(3.9), int(-3.7), int("4x"), int(x), int(-0.5), int(1e300) == 1e300, int("x")`, "3 -3 4 0 0 1 0"},
		{`substr("hello", 2, 3), substr("hello", 2), substr("hello", 0), substr("hello", -1, 3), substr("hello", 1.5, 1.4)`, "ell ello hello h e"},
		{`substr("hello", 9) "-", substr("hello", 2, 0) "-", substr("hello", x, 3), substr(12345, 2, 2), substr("hello", "2x", "1y")`, "- - he 23 e"},
		{`index("abc", "c"), index("abc", "d"), index("abc", ""), index("", "a"), index(123, 23), index("a", x)`, "3 0 0 0 2 0"},
		{`toupper("aBc1\351"), tolower("AbC1\311"), toupper(1e3), tolower(x) "-"`, "ABC1\xe9 abc1\xc9 1000 -"},
		{`toupper(1) < 2, substr("10", 1) < 9, length("10") < 9, int("10") < 9, index("a", "a") < 9`, "1 1 1 0 1"},
		{`sprintf("%03d", 7), sprintf("a%%"), sprintf(x) "-", sprintf("%s%s", 1 / 4, "b"), sprintf("%c%c", 65, "66"), sprintf(1.5)`, "007 a% - 0.25b A6 1.5"},
		{`sprintf("%d", 7) < 8, sprintf("%d", 10) < 9, sprintf("%*d|%-*d", 3, 7, 2, 8)`, "1 1   7|8 "},
	})
	checkPrograms(t, []sourced{{"{ print length, length(), length($2), length NF }", "4 4 1 42|"}}, "ab c")
	checkPrograms(t, []sourced{{"{ print $0 < 9, substr($0, 1) < 9, toupper($0) < 9, tolower($0) < 9 }", "0 1 1 1|"}}, "10")
}

// P14.1: match, RSTART and RLENGTH.
func TestMatch(t *testing.T) {
	checkBegins(t, []sourced{
		{`print match("foobar", /o+/), RSTART, RLENGTH, match("foobar", "x"), RSTART, RLENGTH`, "2 2 2 0 0 -1|"},
		{`print match("abc", "$"), RSTART, RLENGTH; print match("", //), RSTART, RLENGTH`, "4 4 0|1 1 0|"},
		{`print match("a+a", "a+"), RLENGTH, match("xab", "a|ab"), RLENGTH; print match(1234, 2 3), RSTART < 10`, "1 1 2 2|2 1|"},
		{`RSTART = "x"; RLENGTH = 5; match("ba", x = "a"); print RSTART, RLENGTH, x`, "2 1 a|"},
		{`$0 = "ab"; print match("1", /b/), match("1", (/b/)), match("0", (/x/))`, "0 1 1|"},
	})
}

// P14.1: what parts a text, and what the array has then.
func TestSplit(t *testing.T) {
	checkBegins(t, []sourced{
		{`print split("a:b:c", q, ":"), q[1] q[2] q[3]; for (k in q) n++; print n`, "3 abc|3|"},
		{`q["x"]; q[2] = q[5] = 1; print split(" a  b ", q); for (k in q) print k, q[k]`, "2|1 a|2 b|"},
		{`q[1]; print split("", q, ":"); for (k in q) print k`, "0|"},
		{`print split("a1b22c", q, /[0-9]+/), q[2] q[3], split("a1b22c", q, "[0-9]+"), q[2], split("a.b", q, "."), q[2]`, "3 bc 3 b 2 b|"},
		{`print split("a.b", q, /./), length(q[1]), split("a b", q, / /), q[2], split(" a ", q, / /), split(" a ", q, " ")`, "4 0 2 b 3 1|"},
		{`print split("abc", q, ""), q[3], split("a|b", q, "|"), q[2], split("abc", q, //), q[1], split("ab", q, /|x/), q[1]`, "3 c 2 b 1 abc 1 ab|"},
		{`FS = ","; print split("a b,c", q), q[1]; FS = "[ ,]"; print split("a b,c", q), q[2]; FS = 5; print split(152, q), q[2]`, "2 a b|3 b|2 2|"},
		{`split("10 9x", q); print q[1] < 9, q[2] < 10, q[1] + 1; x = q[1]; print x < 9; q[1] = q[1] ""; print q[1] < 9`, "0 0 11|0|1|"},
		{`x = "1-2"; print split(x, q, x = "-"), q[1], q[2]; q[1] = "a b"; print split(q[1], q), q[1], q[2]`, "2 1 2|2 a b|"},
		{`for (i = 0; i < 11; i++) s = s " " i; split(s, q); for (k in q) t = t "," k; print t`, ",1,10,11,2,3,4,5,6,7,8,9|"},
		{`$0 = "x"; print split("a1b0c", q, (/x/)), q[2], split("a1b0c", q, /x/), q[1]`, "2 b0c 1 a1b0c|"},
		{`RS = ""; print split("a\nb:c", q, ":"), q[1], split("a\nb", q, /:/), split("a\nb", q, ""), split("a b\nc", q)`, "3 a 2 3 3|"},
		{`RS = x; FS = ":"; print split("a\nb:c", q); RS = "\n"; print split("a\nb:c", q)`, "3|2|"},
	})
	checkPrograms(t, []sourced{{"function f(a, s) { return split(s, a, \"\") } BEGIN { print f(q, 123), q[3]; print f(q), 3 in q }", "3 3|0 0|"}})
}

// P14.1: sub and gsub.
func TestSub(t *testing.T) {
	checkBegins(t, []sourced{
		{`s = "banana"; print gsub(/a/, "<&>", s), s, sub(/</, "", s), s`, "3 b<a>n<a>n<a> 1 ba>n<a>n<a>|"},
		{`s = "banana"; print sub("an", "[&\\&&]", s), s; print sub("x", "y", s), s`, "1 b[an&an]ana|0 b[an&an]ana|"},
		{`s = "abc"; print gsub(/b*/, "-", s), s; print gsub(//, ".", s), s`, "3 -a-c-|6 .-.a.-.c.-.|"},
		{`s = 122; print sub(2, 3, s), s, s < 9; t = 5; print sub(/x/, "y", t), t < 10`, "1 132 1|0 1|"},
		{`$0 = "a b b"; print gsub(/b/, "c d"), NF, $3; print sub(/c/, ""), $0, NF`, "2 5 d|1 a  d c d 4|"},
		{`$0 = "a b b"; print gsub(/b/, "c d", $2), NF, $2, $0; print sub("a", "", $1), $0, NF`, "1 3 c d a c d b|1  c d b 3|"},
		{`print sub(/$/, "x", u), u, sub(/$/, "y", a["k"]), a["k"], sub(/$/, "z", $3), $0, NF`, "1 x 1 y 1   z 3|"},
		{`$0 = "1 2 3"; print sub(/3/, "2.5", NF), NF, $0, sub(/x/, 1, NF), NF`, "1 2 1 2 0 2|"},
		{`$0 = "xay"; print sub((/a/), "b"), $0, sub(/a/, "b"), $0; x = "y"; print sub(x, x x), $0`, "0 xay 1 xby|1 xbyy|"},
		{`s = "aa"; print gsub("a", s = "b", s), s, gsub(s, "&&" s, s), s`, "0 b 1 bbb|"},
		{`i = 1; a[1] = "x"; print sub(/x/, i++, a[i++]), a[1], a[2] == "", i`, "0 x 1 3|"},
	})
	checkPrograms(t, []sourced{
		{"{ gsub(/o/, \"0\"); print; print $1 == \"f00\" } END { print sub(/0/, \"1\", $2), $0 }", "f00 b0|1|1 f00 b1|"},
		{"function f(s) { gsub(/o/, \"\", s); return s } { print f($0), $0, f($1) }", "f b foo bo f|"},
	}, "foo bo")
}

// P14.1: faults of the language's functions: each is met in order.
func TestBuiltFaults(t *testing.T) {
	checkFaults(t, "ere", "x = \"a\" ~ \"(\"", "x = \"a\" !~ \"[\"", "sub(\"(\", \"\")", "gsub(\"a**\\\\\", \"\")", "match(\"a\", \"+\")", "split(\"a\", q, \"((\")", "FS = \"((\"; split(\"\", q)",
		"FS = \"((\"; $0 = \"a\"", "FS = \"[x\"; sub(/$/, \"a\")", "x = \"a\" ~ \"a{2,1}\"", "CONVFMT = \"d\"; x = .5 ~ \"(\"", "CONVFMT = \"d\"; sub(\"(\", .5)", "sub(\"(\", \"\", $(-1))", "x = 1 ~ \"(\" \"\" && 1 / 0",
		"x = \"a\" ~ \"(.{255}){8}\"")
	checkFaults(t, "format", "x = sprintf(\"%y\")", "x = sprintf(\"%d\")", "x = sprintf(\"%s%s\", 1)", "printf \"%\"", "printf \"%d %d\", 1", "x = sprintf(\"%201d\", 1)", "printf \"%x\", -1", "printf \"%.*d\", 61, 1", "CONVFMT = \"d\"; x = sprintf(\"%s\", .5)", "CONVFMT = \"d\"; printf \"%s\", .5", "printf \"%y\" > \"\"",
		"for (i = 0; i < 99; i++) x = sprintf(\"%200s%y\", 1)")
	checkFaults(t, "conv", "CONVFMT = \"%d\"; x = .5 \"\"", "CONVFMT = \"\"; x = \"\" .5", "CONVFMT = .5; x = .5 \"\"", "CONVFMT = \"%.6gx\"; a[.5]", "CONVFMT = \"x\"; x = .5 in a", "CONVFMT = \"x\"; delete a[1, .5]", "CONVFMT = \"x\"; x = .5 < \"a\"", "CONVFMT = \"x\"; x = length(.5)",
		"CONVFMT = \"x\"; x = toupper(.5)", "CONVFMT = \"x\"; x = substr(.5, 1)", "CONVFMT = \"x\"; x = index(\"a\", .5)", "CONVFMT = \"x\"; x = index(.5, \"a\")", "CONVFMT = \"x\"; x = \"a\" ~ .5", "CONVFMT = \"x\"; x = .5 ~ \"a\"", "CONVFMT = \"x\"; match(.5, \"(\")", "CONVFMT = \"x\"; split(.5, q, \"((\")", "CONVFMT = \"x\"; split(\"a\", q, .5)",
		"CONVFMT = \"x\"; FS = .5; split(\"a\", q)", "CONVFMT = \"x\"; FS = .5; $0 = \"a\"", "CONVFMT = \"x\"; RS = .5; $0 = \"a\"", "CONVFMT = \"x\"; OFS = .5; $2 = \"a\"", "CONVFMT = \"x\"; OFS = .5; NF = 2", "CONVFMT = \"x\"; OFS = .5; NF = -1", "CONVFMT = \"x\"; $2 = .5", "CONVFMT = \"x\"; $0 = .5", "CONVFMT = \"x\"; $(-1) = .5",
		"CONVFMT = \"x\"; sub(.5, \"\")", "CONVFMT = \"x\"; sub(/x/, .5)", "CONVFMT = \"x\"; y = .5; sub(/x/, \"\", y)", "CONVFMT = \"x\"; SUBSEP = .5; a[1, 2]", "CONVFMT = \"x\"; x = sprintf(.5)", "CONVFMT = \"x\"; printf .5", "CONVFMT = \"x\"; OFS = .5; print \"a\"", "CONVFMT = \"x\"; ORS = .5; print \"a\"", "CONVFMT = \"x\"; print \"a\" > .5", "CONVFMT = \"x\"; OFS = .5; print",
		"OFMT = \"%d\"; print .5", "OFMT = .5; print .5", "OFMT = .5; CONVFMT = \"x\"; print 1, .5", "OFMT = \"x\"; print \"c\", .5, 1 > \"\"", "CONVFMT = \"x\"; RS = .5; split(\"a\", q)")
	checkBegins(t, []sourced{
		{"CONVFMT = \"x\"; SUBSEP = .5; a[1]; print 1 in a; x = 5 \"\" \"a\"; print x; x = .5 < 1; x = .5 + .5; if (.5) print .5; printf \"%d %s\\n\", .5, 1", "1|5a|0.5|0 1|"},
		{"OFMT = \"x\"; print 1, \"0.5\", .5 \"\"; OFMT = .5; CONVFMT = \"x\"; print 1", "1 0.5 0.5|1|"},
		{"CONVFMT = \"x\"; FS = .5; OFS = .5; RS = .5; ORS = .5; SUBSEP = .5; printf \"%s\", split(\"\", q, \"a\") ", "!conv"},
	})
}
