package effect

import (
	"strings"
	"testing"

	"tedder/api"
	"tedder/names"
	"tedder/syntax"
)

// parsed gives a program's items, whose names are right.
func parsed(t *testing.T, s string) []api.Node {
	t.Helper()
	l, ok := syntax.Parse(s)
	if _, right := names.Resolve(l); !ok || !right {
		t.Fatalf("%.300q is no program, or its names aren't right", s)
	}
	return l
}

// shown gives an answer of Find as a text: name:class of each update with blanks between, or refused.
func shown(l []api.Update, ok bool) string {
	if !ok && l == nil {
		return "refused"
	}
	var updates []string
	for _, u := range l {
		updates = append(updates, u.Name+":"+u.Class)
	}
	if !ok {
		updates = append(updates, "beside false")
	}
	return strings.Join(updates, " ")
}

// checkFind holds Find against what it answers to a program.
func checkFind(t *testing.T, source, want string) {
	t.Helper()
	if got := shown(Find(parsed(t, source))); got != want {
		t.Errorf("%.300q: %.300s, not %.300s", source, got, want)
	}
}

// checkAccepted asks for the updates of programs.
func checkAccepted(t *testing.T, want string, sources ...string) {
	t.Helper()
	for _, s := range sources {
		checkFind(t, s, want)
	}
}

// checkRefused asks for programs that aren't accepted.
func checkRefused(t *testing.T, sources ...string) {
	t.Helper()
	checkAccepted(t, "refused", sources...)
}

// checkExpressions holds programs with expressions at whatever place of a rule against what Find answers to them. The places ask for no more than there is in the expressions.
func checkExpressions(t *testing.T, want string, expressions ...string) {
	t.Helper()
	for _, e := range expressions {
		for _, around := range []string{
			"@", "@ { }", "@ { print }", "{ @ }", "{ { @; } }", "{ print @ }", "{ print 1, (@), 2 }", "{ printf \"%s\", (@) }", "{ $1 = (@) }", "{ NF = (@) }", "{ $(@) = 1 }",
			"{ if (@) ; }", "{ if ($1) (@); else print }", "{ if ($1) print; else (@) }", "{ while (@) print }", "{ while ($1) { (@) } }", "{ do print; while (@) }", "{ do (@); while ($1) }",
			"{ for (@; ; ) print }", "{ for (; @; ) print }", "{ for (; ; @) print }", "{ for (; ; ) (@) }", "{ while ($1) { do { if ($1) { (@) } } while ($2) } }",
			"{ print -(@), !(@), (@) + 1, 1 - (@), (@) ^ 2, (@) (@) }", "{ print (@) ~ 1, 1 ~ (@), (@) && 1, 1 || (@), ((@) < 1), (1 >= (@)) }", "{ print (@) ? 1 : 2, 1 ? (@) : 2, 1 ? 2 : (@) }",
			"{ print $(@), $(@)++, --$(@) }", "{ $1 += (@); $(@) -= 1; $2 ^= (@) }", "{ print length((@)), int((@)), tolower((@)), toupper((@)), index((@), 1), index(1, (@)) }",
			"{ print substr((@), 1), substr(1, (@)), substr(1, 1, (@)), sprintf((@)), sprintf(1, (@), 1) }", "{ sub((@), 1); gsub(1, (@)); sub(1, 1, $(@)); gsub((@), 1, $1) }",
		} {
			checkAccepted(t, want, strings.ReplaceAll(around, "@", e), "BEGIN { print }\n"+strings.ReplaceAll(around, "@", e)+"\n$1\nEND { print }")
		}
	}
}

// P17.1: the chapter's example, and programs without updates.
func TestExamples(t *testing.T) {
	checkAccepted(t, "last:last n:sums s:sum", "{ s += $1; n[$2]++ } /x/ { last = $0 }")
	checkAccepted(t, "", "", "BEGIN { print 1 }", "END { print NR }", "$1", "{ }", "{ print }", "{ ; }", "/a/ { print $1, (NR > 1) ? x : y }\n!z")
	checkRefused(t, "{ s += $1; n[$2]++ } /x/ { last = $0; exit }", "{ print s; s += $1 }")
}

// P17.1: where names and ops differ, what changes a variable is a sum.
func TestSum(t *testing.T) {
	checkAccepted(t, "s:sum", "{ s += 1 }", "{ s -= 1 }", "{ s++ }", "{ s-- }", "{ ++s }", "{ --s }", "{ s += $1; s -= $2; s++; --s }", "{ s++ } $1 { s-- }", "$1 { s += NR * 2 x }")
	checkAccepted(t, "s:sum", "{ s += ($1 = 2) }", "{ s += $1++ }", "{ s -= NF-- }", "{ s += sub(/a/, 1) gsub(/b/, 2, $3) }", "{ s += (s1 ? x : y) }", "{ s += $1 = 2 }")
	checkRefused(t, "{ s *= 2 }", "{ s /= 2 }", "{ s %= 2 }", "{ s ^= 2 }", "{ s++; s *= 2 }", "{ (s++) }", "{ (s += 1) }", "{ -s++ }", "{ s++ + 1 }", "{ s++ 1 }", "{ $s++; s++ }", "s++", "s += 1 { print }", "{ print s++ }", "{ s += 1 ? s++ : 2 }", "{ s += x++ }", "{ s += (x = 1) }", "{ s += a[1] }", "{ s += x += 1 }", "{ $1 = s++ }")
}

// P17.1: where an array's element is added to, purely, it is sums.
func TestSums(t *testing.T) {
	checkAccepted(t, "a:sums", "{ a[1] += 1 }", "{ a[1] -= $2 }", "{ a[$1]++ }", "{ a[$1]-- }", "{ ++a[NR] }", "{ --a[NR, NF, $1 x] }", "{ a[1] += $1; a[2] -= $2; a[3]++; --a[4] }", "{ a[1] += x ? y : length($1) }", "{ a[substr($1, 2), -NR]++ }")
	checkRefused(t, "{ a[1] = 2 }", "{ a[1] *= 2 }", "{ a[1] /= 2 }", "{ a[1] %= 2 }", "{ a[1] ^= 2 }", "{ a[1]++; a[1] = 2 }", "{ (a[1]++) }", "{ -a[1]++ }", "{ a[1]++ 2 }", "a[1]++", "{ print a[1]++ }", "{ a[1] }", "{ a[1]++; print a[2] }")
	for _, e := range []string{"$1 = 2", "($1 = 2)", "$1++", "--$1", "NF--", "(NF = 1)", "sub(/a/, 1)", "gsub(/a/, 1, $2)", "-(1 sub(/a/, 1))", "$(NF += 1)", "x = 1", "x++", "a[1]", "b[1]", "length(a[1])", "1 in a", "f(1)", "split($1, b)", "match($1, 2)"} {
		const f = "function f(x) { return x }\n"
		checkRefused(t, f+"{ a[1] += "+e+" }", f+"{ a[2] -= "+e+" }", f+"{ a["+e+"]++ }", f+"{ --a[1, "+e+", 2] }", f+"{ a["+e+"] += 1 }", f+"{ b[1]++; a[1] += "+e+" }")
	}
}

// P17.1: an if that keeps the greatest is max, one that keeps the least min.
func TestExtremes(t *testing.T) {
	for _, e := range []string{
		"$1", "$NF", "$(x + 1)", "$$1", "($1)", "(($1))", "NR", "NF", "FNR", "(NR)", "1", "007", "-$1", "+x", "!x", "-\"a\"", "$1 + x", "$1 * 2 - NR", "$1 / 2", "$1 % 2", "$1 ^ 2", "(/a/)", "($1 ~ \"x\")", "($1 !~ x)", "($1 < 2)", "(x == y)", "(x && y)", "($1 || $2)",
		"length", "length()", "length($1 $2)", "int($1)", "int(x)", "index($0, \"a\")", "(length($1))", "($1 ? 1 : 2)", "((x ? NR : (-$1)))", "(x ? y ? 1 : 2 : 3)", "((x y) + 1)", "$(x y)", "length(substr($0, 2))",
	} {
		checkAccepted(t, "m:max", "{ if ("+e+" > m) m = "+e+" }", "{ if (("+e+" > m)) m = "+e+" }", "{ if (((("+e+" > m)))) { m = "+e+"; } }", "{ while ($1) { if ("+e+" > m) { m = "+e+" } } }", "$1 { if ("+e+" > m)\nm = "+e+"; if (2 > m) m = 2 }")
		checkAccepted(t, "m:min", "{ if ("+e+" < m) m = "+e+" }", "{ if (("+e+" < m)) { m = "+e+" } }")
		checkRefused(t, "{ if ("+e+" < m) m = "+e+" } { if ("+e+" > m) m = "+e+" }")
	}
	checkAccepted(t, "l:min m:max", "{ if ($1 > m) m = $1; if ((NF < l)) { l = NF } }")
	checkAccepted(t, "l:sum m:max n:last s:sums", "{ if ($1) { if ($1 > m) m = $1 } else l++; n = x; s[1]++ }", "{ if ($1) l++; else if ($1 > m) m = $1 } { s[1]++; n = 1 }")
}

// P17.1: an if that isn't just as told keeps nothing: what it asks is asked.
func TestNoExtremes(t *testing.T) {
	for _, e := range []string{"x", "(x)", "\"a\"", "$1 $2", "($1 $2)", "substr($1, 2)", "tolower($1)", "toupper($1)", "sprintf($1)", "FILENAME", "FS", "RLENGTH", "(x ? \"a\" : 1)", "(x ? 1 : y)", "(x ? 1 : y ? 2 : z)", "(x ? 1 : ($1))", "((x))"} {
		checkRefused(t, "{ if ("+e+" > m) m = "+e+" }", "{ if ("+e+" < m) { m = "+e+" } }")
	}
	for _, e := range []string{"-($1 = 2)", "-$1++", "--$1", "$($1 = 2)", "$(NF--)", "sub(/a/, 1)", "1 + gsub(/a/, 1)", "int(sub(/a/, 1))", "(x ? 1 : $1--)", "-(x = 1)", "-x++", "-m", "$m", "m + 1", "length(m)"} {
		checkRefused(t, "{ if ("+e+" > m) m = "+e+" }")
	}
	checkRefused(t,
		"{ if ($1 >= m) m = $1 }", "{ if ($1 <= m) m = $1 }", "{ if ($1 == m) m = $1 }", "{ if ($1 != m) m = $1 }", "{ if ($1 ~ m) m = $1 }", "{ if (m > $1) m = $1 }", "{ if (m < $1) m = $1 }", "{ if ($1 m) m = $1 }", "{ if ($1 - m) m = $1 }",
		"{ if ($1 > m) m = $2 }", "{ if ($1 > m) m = ($1) }", "{ if (($1) > m) m = $1 }", "{ if ($1 > (m)) m = $1 }", "{ if (1 > m) m = 1.0 }", "{ if (1 > m) m = 01 }", "{ if ($1 > m) m = $\"1\" }", "{ if (-\"1\" > m) m = -1 }", "{ if (-x > m) m = -\"x\" }", "{ if ($1 + 2 > m) m = $1 - 2 }", "{ if ($1 + 2 > m) m = 2 + $1 }", "{ if (length > m) m = length($0) }",
		"{ if ($1 > m) m += $1 }", "{ if ($1 > m) m -= $1 }", "{ if ($1 > m) m++ }", "{ if ($1 > m) (m = $1) }", "{ if ($1 > m) { { m = $1 } } }", "{ if ($1 > m) { m = $1; print } }", "{ if ($1 > m) { print; m = $1 } }", "{ if ($1 > m) { } m = $1 }", "{ if ($1 > m) ; m = $1 }", "{ if ($1 > m) print } { m = $1 }",
		"{ if ($1 > m) m = $1; else ; }", "{ if ($1 > m) m = $1; else print }", "{ if (!($1 > m)) m = $1 }", "{ if ($1 > m && x) m = $1 }", "{ if (($1 > m) > 2) m = $1 }",
		"{ while ($1 > m) m = $1 }", "{ for (; $1 > m; ) m = $1 }", "{ m = $1 > m ? $1 : m }", "{ $1 > m && (m = $1) }", "{ if ($1 > m) m = m = $1 }",
		"{ if ($1 > a[1]) a[1] = $1 }", "{ if ($1 > NR) NR = $1 }", "{ if ($1 > FS) FS = $1 }", "{ if ($1 > m) n = $1; m = 2 }", "{ if ($1 > m) if (2) m = $1 }",
	)
	// Without an update of the variable it may be asked, and what isn't updated may be kept.
	checkAccepted(t, "n:last", "{ if ($1 > m) n = $1 }", "{ if ($1 > m) n = m }")
	checkAccepted(t, "", "{ if ($1 > NF) NF = $1 }", "{ if ($1 > $2) $2 = $1 }", "{ if ($1 > m) print }", "{ if ($1 > m) { } }", "{ if ($1 > m) ; }", "{ if (m < $1) $1 = m }")
	checkAccepted(t, "m:last", "{ if (2 > n) m = 2 }", "{ if (2) m = 2 }", "{ if (2 > \"m\") m = 2 }", "{ if (2 > (/m/)) m = 2 }", "{ if (2 > 3) m = 2 }")
}

// P17.1: whatever is put at a variable is last.
func TestLast(t *testing.T) {
	checkAccepted(t, "l:last", "{ l = $0 }", "{ l = $1; l = $2 } { l = 3 }", "{ l = x }", "{ l = ($1 = 2) }", "{ l = $1 = $2 = 3 }", "{ l = NF = 2 }", "{ l = sub(/a/, 1) }", "{ if ($1) l = 1; else l = 2 }", "{ l = $1 > 2 }", "{ l = x ? y : z }", "{ while ($1 > 1) l = NR }")
	checkRefused(t, "{ (l = 1) }", "{ l = 1 } { print l }", "{ l = k = 1 }", "{ k = l; l = 1 }", "{ l = l }", "{ l = l 1 }", "{ l = 1 (l = 2) }", "{ -(l = 1) }", "l = 1", "l = 1 { }", "{ print (l = 1) }", "{ l = a[1] }", "{ l = k++ }", "{ l = 1 in a }")
}

// P17.1: an update is looked for where a statement stands.
func TestStatements(t *testing.T) {
	for update, want := range map[string]string{"v++": "v:sum", "v -= $1 = 2": "v:sum", "v[$1]--": "v:sums", "v[1] += $2": "v:sums", "v = $1": "v:last"} {
		for _, around := range []string{
			"{ @ }", "{ { @ } }", "$1 { { ; @; @ }; { @ } }", "{ if ($1) @ }", "{ if ($1) { @ } }", "{ if ($1) @; else print }", "{ if ($1) print; else @ }", "{ if ($1) @; else if ($2) @; else { @ } }",
			"{ while ($1) @ }", "{ while ($1) { @; next } }", "{ do @; while ($1) }", "{ do { @ } while ($1) }", "{ for (;;) @ }", "{ for (;;) { @; break } }", "{ for (@; ; ) print }", "{ for (; ; @) print }", "{ for (@; $1; @) @ }", "{ for (@; ; ) for (; ; @) do while ($1) if ($2) { @ } while ($3) }",
		} {
			checkAccepted(t, want, strings.ReplaceAll(around, "@", update))
		}
		for _, around := range []string{"@", "@ { print }", "{ if (@) print }", "{ while (@) print }", "{ do print; while (@) }", "{ for (; @; ) print }", "{ print (@) }", "{ printf (@) }", "{ (@) }", "{ @; print -(@) }", "{ $(@) }", "{ $1 = (@) }", "{ !(@) }"} {
			checkRefused(t, strings.ReplaceAll(around, "@", update))
		}
	}
}

// P17.1: no variable is updated in two ways; in one way as often as may be.
func TestTwoWays(t *testing.T) {
	ways := []string{"v += 1", "if (NR > v) v = NR", "if (NR < v) v = NR", "v = NR"}
	for i, first := range ways {
		want := []string{"v:sum", "v:max", "v:min", "v:last"}[i]
		for k, second := range ways {
			for _, s := range []string{"{ " + first + "; " + second + " }", "{ " + first + " }\n/x/ { " + second + " }", "{ if ($1) { " + first + " } else { " + second + " } }"} {
				if i == k {
					checkAccepted(t, want, s)
				} else {
					checkRefused(t, s)
				}
			}
			other := strings.ReplaceAll(second, "v", "w")
			checkAccepted(t, want+" "+strings.ReplaceAll([]string{"v:sum", "v:max", "v:min", "v:last"}[k], "v", "w"), "{ "+first+"; "+other+" }", "{ "+other+" } { "+first+" }")
		}
	}
	checkRefused(t, "{ x += 1; y += 1; y = 2 }", "{ y = 2; y += 1; z += 1 }")
}

// P17.1: an updated variable stands nowhere else in the rules; elsewhere it may.
func TestAsked(t *testing.T) {
	for _, update := range []string{"v += 1", "--v", "v = 1", "if ($1 > v) v = $1", "if (2 < v) { v = 2 }"} {
		checkExpressions(t, "", "v", "(v)", "$v")
		for _, asked := range []string{"{ print v }", "v", "$v", "{ print 1, length(v) }", "{ if (v) print }", "{ while (v) next }", "{ do print; while ($v) }", "{ for (; v < 2; ) print }", "{ x += v }", "{ x = v }", "{ a[v]++ }", "{ a[1] += v }", "{ $v = 1 }", "{ $1 = v }", "{ NF = v }", "{ sub(v, 1) }", "{ sub(/a/, 1, $v) }", "{ if ($1 > v) print }", "{ if (v > m) m = v }", "{ if ($v > m) m = $v }", "{ if (-v < m) m = -v }", "{ if (v + 1 > v) v = v + 1 }", "{ v += v }", "{ printf v, v }"} {
			checkRefused(t, "{ "+update+" }\n"+asked, asked+"\n{ "+update+" }")
		}
		const around = "BEGIN { v = 1; print v; if (v > 2) v++; f(v) }\nEND { v *= 2; print v, v++ }\nfunction f(x) { v = x; return v }\nfunction g(v) { v[1] }\n"
		want := shown(Find(parsed(t, "{ "+update+" }")))
		checkAccepted(t, want, around+"{ "+update+" }", "{ "+update+" }\n"+around)
	}
	checkAccepted(t, "a:sums", "BEGIN { a[1] = a[2]; delete a[1]; split(x, a) } { a[$1]++ } END { for (k in a) print k, a[k], 1 in a; f(a) } function f(b) { b[1] = 2 }")
}

// P17.1: in rules alone something stands against a program, there wherever it stands.
func TestBarred(t *testing.T) {
	const f = "\nfunction f(x) { return x }\n"
	for _, e := range []string{"f()", "f(1)", "(1 in a)", "((1, 2) in a)", "a[1]", "a[1, 2]", "split($1, a)", "split($1, a, /b/)", "match($1, /a/)", "sub(/a/, 1, x)", "gsub(/a/, 1, x)", "sub(/a/, 1, a[1])", "gsub(/a/, 1, a[1])", "sub(/a/, 1, NF)", "gsub(/a/, 1, NF)", "(x = 1)", "(x *= 2)", "x++", "--x", "(NR = 1)", "NR++", "(FS = 1)", "RSTART--", "(OFS += 1)", "(a[1] = 2)", "a[1]++", "(a[1] /= 2)"} {
		checkAccepted(t, "", "BEGIN { print "+e+" }"+f+"{ print }", "END { "+e+" }"+f, "function g() { "+e+" }"+f)
		for _, around := range []string{"@", "{ @ @ }", "{ print @ }", "{ print 1, -(@) }", "{ if (@) print }", "{ while ($1) if (@) print }", "{ do print; while (@) }", "{ for (; @; ) print }", "{ $(@) = 1 }", "{ $1 = @ }", "{ NF = @ }", "{ s += @ }", "{ s[@]++ }", "{ s[1] += @ }", "{ l = @ }", "{ if (1 + @ > m) m = 1 + @ }", "{ if ($(@) < m) m = $(@) }", "{ if ((@ ? 1 : 2) > m) m = (@ ? 1 : 2) }", "{ sub(@, 1) }", "{ gsub(1, 1, $(@)) }", "{ print length(@), sprintf(1, @) }"} {
			checkRefused(t, strings.ReplaceAll(around, "@", e)+f)
		}
	}
	for _, s := range []string{"exit", "exit 1", "delete a[1]", "for (k in a) ;", "print > \"f\"", "print 1 > x", "print $1, $2 >> $3", "printf 1 > 2", "printf $1, $2 >> x", "x *= 2", "NR = 1", "NR++", "FNR += 1", "FS = 2", "OFS = 2", "ORS = 2", "RS = 2", "FILENAME = 2", "SUBSEP = 2", "CONVFMT = 2", "OFMT = 2", "RSTART = 2", "RLENGTH = 2", "if ($1 > NR) NR = $1", "a[1] = 2", "a[1]"} {
		checkAccepted(t, "", "BEGIN { "+s+" }\n{ print }", "END { "+s+" }", "function f() { "+s+" }\n$1")
		for _, around := range []string{"{ @ }", "$1 { print; { @ } }", "{ if ($1) @ }", "{ if ($1) print; else @ }", "{ while ($1) @ }", "{ do { @ } while ($1) }", "{ for (;;) @ }", "{ s++; @ }", "{ } { @ }"} {
			checkRefused(t, strings.ReplaceAll(around, "@", s))
		}
	}
	for _, s := range []string{"print > \"f\"", "delete a[1]", "exit 1", "NR++"} {
		checkRefused(t, "{ for ("+s+"; ; ) print }", "{ for (; ; "+s+") print }")
	}
}

// P17.1: with a range no program is accepted.
func TestRange(t *testing.T) {
	checkRefused(t, "$1, $2", "NR == 1, NR == 2 { print }", "1, 2 { }", "{ s++ } /a/, /b/", "BEGIN { }\n1, 2\nEND { }")
}

// P17.1: what changes the record alone may stand anywhere, and all that only asks.
func TestAllowed(t *testing.T) {
	checkExpressions(t, "", "$1", "$NF", "$(NR + 1)", "NR", "NF", "FNR", "FILENAME", "OFS", "RSTART", "1", "\"a\"", "x", "$x", "(x y)", "length", "length($1)", "substr($1, 2, 3)", "index($1, x)", "sprintf(\"%d\", NR)", "tolower($1)", "toupper(x)", "int($2)", "(x ? y : z)", "(x && y)", "(x || $1)", "($1 ~ /a/)", "($1 !~ x)", "!x", "-$1", "($1 <= 2)")
	checkExpressions(t, "", "($1 = 2)", "$1++", "--$x", "($0 = x)", "($(NR) += 2)", "($1 /= 3)", "(NF = 3)", "NF--", "++NF", "(NF *= 2)", "($1 = NF = 2)", "sub(/a/, x)", "gsub(/a/, \"b\", $2)", "gsub(x, y, $($1 = 2))", "sub(/a/, 1, $0)")
	checkAccepted(t, "", "{ while ($1) { break; continue } }", "{ next }", "{ if ($1) next; else { next } }", "{ print; print $1; printf \"%s\", $1; printf($1, NR) }", "{ print (1, 2) }", "{ do print; while ($1--) }", "/a/", "!/a/ { }", "{ ; ; }")
}

// P17.1: updates rise by name, byte by byte, each variable once.
func TestOrder(t *testing.T) {
	checkAccepted(t, "B:last Z:sum _:sums a:max a0:sum a_:last aa:sum b:sum z:sums", "{ z[1]++; b++; aa++; a_ = 1; a0++; if ($1 > a) a = $1; _[1]++; Z++; B = 1 } { b++; z[2]--; B = 2; aa += 2 }")
	var ahead, behind, want []string
	for c := 'z'; c >= 'a'; c-- {
		ahead = append(ahead, string(c)+"++")
		behind = append(behind, "--"+string('a'+'z'-c))
		want = append(want, string('a'+'z'-c)+":sum")
	}
	checkAccepted(t, strings.Join(want, " "), "{ "+strings.Join(ahead, "; ")+" }", "{ "+strings.Join(behind, "; ")+" }", "{ "+strings.Join(ahead, "; ")+" }\n{ "+strings.Join(behind, "; ")+" }")
}

// P17.1: the class of special variables: none of them is ever an update.
func TestSpecial(t *testing.T) {
	for _, name := range strings.Fields("NF NR FNR FS OFS ORS RS FILENAME SUBSEP CONVFMT OFMT RSTART RLENGTH") {
		want := "refused"
		if name == "NF" {
			want = ""
		}
		checkAccepted(t, want, "{ "+name+" = 1 }", "{ "+name+" += 1 }", "{ "+name+"++ }", "{ --"+name+" }", "{ if (1 > "+name+") "+name+" = 1 }", "{ if (1 < "+name+") { "+name+" = 1 } }", "{ "+name+" *= 2 }", "{ print ("+name+" = 1) }")
		checkAccepted(t, "", "{ print "+name+" }", name, "BEGIN { "+name+" = 1 } { print }", "END { "+name+"++ }")
		for _, other := range []string{name + "_", "_" + name, strings.ToLower(name), name[1:] + "x", name + name} {
			checkAccepted(t, other+":last", "{ "+other+" = 1 }")
		}
	}
}
