package sample

import "strings"

// Maker makes programs of nodes of all kinds, with names that are right. What it makes hangs on its bits, of which each program takes some thousands at most.
type Maker struct {
	Bits         []uint64
	loops        int  // around what is made
	within, rule bool // whether that is in a function's block, a rule's
}

// Pick gives one of these.
func (m *Maker) Pick(l ...string) string {
	b := m.Bits[0] >> 33 % uint64(len(l))
	m.Bits = m.Bits[1:]
	return l[b]
}

// of gives one of those words.
func (m *Maker) of(words string) string { return m.Pick(strings.Fields(words)...) }

// scalar gives a scalar's name, and array one of an array; p and q are parameters.
func (m *Maker) scalar() string { return m.of("x y z x y z NF p") }
func (m *Maker) array() string  { return m.of("a b q") }

// ere gives an expression over bytes.
func (m *Maker) ere() string { return m.of("/a/ /^1/ /[0-9]+/ /b*/ /,|x/ /$/") }

// leaf gives an operand without others in it.
func (m *Maker) leaf() string {
	switch m.of("number text ere scalar field other") {
	case "number":
		return m.of("0 1 2 3 10 .5 2.25 1e3 100000000000000000000")
	case "text":
		return m.Pick(`""`, `"a"`, `"b c"`, `"10"`, `" 3 "`, `"<&>"`, `"%s:%d"`, `"0x"`, `"b+"`, `","`, `"(x"`)
	case "ere":
		// Right behind an operand it would divide.
		return "(" + m.ere() + ")"
	case "field":
		return m.of("$0 $1 $2 $3 $NF")
	case "other":
		return m.of("length NR FNR NF OFS RSTART RLENGTH FILENAME p")
	}
	return m.scalar()
}

// list gives expressions with commas between.
func (m *Maker) list(deep int) string {
	return m.expression(deep) + m.Pick("", "", ", "+m.expression(deep))
}

// place gives a place.
func (m *Maker) place(deep int) string {
	switch m.of("var var elem elem field") {
	case "elem":
		return m.array() + "[" + m.list(deep) + "]"
	case "field":
		return m.Pick("$0", "$1", "$2", "$4", "$(x % 5)", "$("+m.expression(deep)+")")
	}
	return m.scalar()
}

// expression gives one that may stand anywhere; no more than so deep.
func (m *Maker) expression(deep int) string {
	if deep == 0 {
		return m.leaf()
	}
	deep--
	switch m.of("leaf leaf place bin bin bin match group unary cond assign step in call built") {
	case "place":
		return m.place(deep)
	case "bin":
		return "(" + m.expression(deep) + m.Pick(" ", " ", " ", " + ", " + ", " - ", " - ", " * ", " / ", " % ", " ^ ", " < ", " <= ", " == ", " != ", " > ", " >= ", " && ", " || ") + m.expression(deep) + ")"
	case "match":
		return "(" + m.expression(deep) + m.Pick(" ~ ", " !~ ") + m.searched(deep) + ")"
	case "group":
		return "(" + m.expression(deep) + ")"
	case "unary":
		return "(" + m.of("- + !") + m.expression(deep) + ")"
	case "cond":
		return "(" + m.expression(deep) + " ? " + m.expression(deep) + " : " + m.expression(deep) + ")"
	case "assign":
		return "(" + m.place(deep) + m.of("= = = += -= *= /= %= ^=") + m.expression(deep) + ")"
	case "step":
		return "(" + m.Pick(m.of("++ --")+m.place(deep), m.place(deep)+m.of("++ --")) + ")"
	case "in":
		return "((" + m.list(deep) + ") in " + m.array() + ")"
	case "call":
		return m.Pick("f()", "f("+m.expression(deep)+")", "f("+m.expression(deep)+", "+m.array()+")", "g()")
	case "built":
		return m.built(deep)
	}
	return m.leaf()
}

// searched gives what is looked for in a text.
func (m *Maker) searched(deep int) string { return m.Pick(m.ere(), m.ere(), m.expression(deep)) }

// built gives a call of a function of the language.
func (m *Maker) built(deep int) string {
	first, second := m.expression(deep), m.expression(deep)
	switch name := m.of("length substr index split sub gsub gsub match sprintf int tolower toupper"); name {
	case "substr":
		return "substr(" + first + ", " + second + m.Pick("", ", "+m.expression(deep)) + ")"
	case "index":
		return "index(" + first + ", " + second + ")"
	case "split":
		return "split(" + first + ", " + m.array() + m.Pick("", ", "+m.searched(deep)) + ")"
	case "sub", "gsub":
		return name + "(" + m.searched(deep) + ", " + first + m.Pick("", ", "+m.place(deep), ", "+m.place(deep)) + ")"
	case "match":
		return "match(" + first + ", " + m.searched(deep) + ")"
	case "sprintf":
		return "sprintf(" + m.Pick(`"%s"`, `"%d|%5.1f"`, `"%c%-4s"`, `"%x"`, first) + ", " + second + ", " + m.leaf() + ")"
	default:
		return name + "(" + first + ")"
	}
}

// simple gives a simple statement.
func (m *Maker) simple(deep int) string {
	switch m.of("expression expression print print special delete out") {
	case "print":
		return m.Pick("print", "print "+m.list(deep), "print "+m.list(deep), `printf "%s,%d\n", `+m.expression(deep)+", "+m.expression(deep), "printf "+m.list(deep)) + m.Pick("", "", "", "", "", "", " > \"r\" x", " >> \"s\"", " > \"r\" $1", " > $1")
	case "special":
		return m.of("OFS ORS SUBSEP FS RS CONVFMT OFMT NR") + " = " + m.Pick(`","`, `"-"`, `"[ab]"`, `""`, `"%.3g"`, `"%d"`, m.expression(deep))
	case "delete":
		return "delete " + m.array() + "[" + m.list(deep) + "]"
	case "out":
		if m.loops > 0 && m.of("in out") == "in" {
			return m.of("break continue")
		}
		return m.out(deep)
	}
	return m.expression(deep)
}

// out gives a statement that leaves the part.
func (m *Maker) out(deep int) string {
	switch {
	case m.of("exit other other other") == "exit":
		return m.Pick("exit", "exit "+m.expression(deep))
	case m.within:
		return m.Pick("return", "return "+m.expression(deep), "return "+m.expression(deep))
	case m.rule:
		return "next"
	}
	return m.expression(deep)
}

// looped gives a loop's statement.
func (m *Maker) looped(deep int) string {
	m.loops++
	s := m.statement(deep)
	m.loops--
	return s
}

// condition gives what an if asks, and goingOn what a loop asks.
func (m *Maker) condition() string {
	return m.Pick("x++ < 3", "y > 0", "NR < 3", "!(1 in a)", "$1", m.expression(1), m.expression(2))
}
func (m *Maker) goingOn() string {
	return m.Pick("i++ % 4", "i++ % 4", "i++ % 3", "j++ % 3", "j++ % 3", "x-- > 0", m.expression(1))
}

// statement gives a statement with its end.
func (m *Maker) statement(deep int) string {
	if deep == 0 {
		return m.simple(1) + "\n"
	}
	deep--
	switch m.of("simple simple block block if if while do for for forin") {
	case "block":
		return "{ " + m.statement(deep) + m.statement(deep) + m.statement(deep) + "}\n"
	case "if":
		return "if (" + m.condition() + ") " + m.statement(deep) + m.Pick("", "else "+m.statement(deep))
	case "while":
		return "while (" + m.goingOn() + ") " + m.looped(deep)
	case "do":
		return "do " + m.looped(deep) + "while (" + m.goingOn() + ")\n"
	case "for":
		return "for (" + m.Pick("", m.simple(1)) + "; " + m.Pick("", m.goingOn(), m.goingOn(), m.goingOn()) + "; " + m.Pick("", m.simple(1)) + ") " + m.looped(deep)
	case "forin":
		return "for (" + m.scalar() + " in " + m.array() + ") " + m.looped(deep)
	}
	return m.simple(2) + "\n"
}

// block gives a block.
func (m *Maker) block() string {
	return "{ " + m.statement(3) + m.statement(2) + "}\n"
}

// Program gives a program: functions f, which may take any value and an array, and g, BEGIN, rules, a range, and END; with the scalars x, y and z, and the arrays a, b and q.
func (m *Maker) Program() string {
	m.within = true
	s := "function f(p, q) " + m.block() + "function g() " + m.block()
	m.within = false
	s += "BEGIN " + m.block()
	m.rule = true
	s += m.block() + m.Pick(m.ere(), m.expression(3)) + "\n" + m.expression(2) + ", " + m.expression(2) + m.Pick("\n", m.block())
	m.rule = false
	return s + "END " + m.block() + "BEGIN { a[1] b[1] q[1] x y z }\nfunction h(p, q) { p = q[1] }\n"
}
