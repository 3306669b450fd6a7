package effect

import (
	"maps"
	"slices"
	"strings"
	"testing"

	"tedder/sample"
)

// published makes programs whose rules only print to what is printed, ask fields and NR, and update each variable in one way.
type published struct {
	sample.Maker
	updated map[string]string // the class of each variable that the program updates
}

// asked gives an expression of fields and NR, at most so many deep.
func (p *published) asked(deep int) string {
	if deep == 0 {
		return p.Pick("$1", "$2", "$3", "$0", "NR", "1", "10", `"a"`, `"b c"`, "$NR", "(/a/)")
	}
	first, second := p.asked(deep-1), p.asked(deep-1)
	return p.Pick(first, "("+first+p.Pick(" ", " + ", " - ", " * ", " / ", " % ", " ^ ", " < ", " > ", " == ", " ~ ", " !~ ", " && ", " || ")+second+")", "(-"+first+")", "(!"+second+")", "$("+first+")", "("+first+" ? "+second+" : "+p.asked(0)+")", "("+second+")",
		p.Pick("length", "int", "tolower", "toupper", "sprintf")+"("+first+")", "index("+first+", "+second+")", "substr("+first+", "+second+")")
}

// compared gives one that is a field, or makes a number.
func (p *published) compared() string {
	e := p.asked(1)
	return p.Pick("$1", "$2", "$NR", "NR", "length", "3", "-"+e, "("+e+" + 1)", "$("+e+")", "length("+e+")", "($1 ? 1 : NR)", "(/a/)", "int($2)", "index($0, $1)")
}

// update gives one of a variable whose name tells its class.
func (p *published) update() string {
	name := p.Pick("s", "t", "n", "count", "m", "most")
	switch name {
	case "s", "t":
		p.updated[name] = "sum"
		return name + " += " + p.asked(2)
	case "n", "count":
		p.updated[name] = "sums"
		return name + "[" + p.asked(1) + p.Pick("", ", "+p.asked(1)) + "]++"
	}
	p.updated[name] = "max"
	e := p.compared()
	return "if (" + e + " > " + name + ") " + name + " = " + e
}

// statement gives one, at most so many deep.
func (p *published) statement(deep int) string {
	if deep == 0 {
		if p.Pick("print", "update") == "update" {
			return p.update()
		}
		return p.Pick("print", "print "+p.asked(2), "print "+p.asked(1)+", "+p.asked(1), `printf "%s\n", `+p.asked(1))
	}
	first, second := p.statement(deep-1), p.statement(deep-1)
	return p.Pick("{ "+first+"\n"+second+" }", "if ("+p.asked(1)+") { "+first+" } else { "+second+" }", "if ("+p.asked(1)+") "+first+"\nif ("+p.asked(1)+") { "+second+" }")
}

// program gives one, with BEGIN and END now and then, which may do what they like.
func (p *published) program() string {
	p.updated = map[string]string{}
	s := p.Pick("", "BEGIN { s = 1; count[1] = 2; FS = \",\"; NR = 3; print s > \"f\" }\n")
	for p.Pick("more", "more", "less") == "more" {
		s += p.Pick("", "", p.asked(1)+" ") + "{ " + p.statement(2) + "\n" + p.statement(0) + " }\n" + p.Pick("", "", p.asked(2)+"\n")
	}
	return s + p.Pick("", "END { print s, t, m, most; for (k in n) print k, n[k]; delete count[1]; m = s++; exit }\n")
}

// want gives the updates, as shown does.
func (p *published) want() string {
	var l []string
	for _, name := range slices.Sorted(maps.Keys(p.updated)) {
		l = append(l, name+":"+p.updated[name])
	}
	return strings.Join(l, " ")
}

// P17.2: programs of the published class are accepted.
func TestPublished(t *testing.T) {
	p := published{Maker: sample.Maker{Bits: sample.Bits(1000000)}}
	all, counts := 0, map[int]int{}
	for len(p.Bits) > 10000 {
		s := p.program()
		checkAccepted(t, p.want(), s)
		counts[len(p.updated)]++
		all++
	}
	if all < 1000 || len(counts) != 7 {
		t.Errorf("%d programs, with updates of %v", all, counts)
	}
}
