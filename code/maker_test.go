package code

import "strings"

// maker makes programs of nodes of all kinds.
type maker struct {
	bits            []uint64
	loops           int
	function, rules bool
}

// pick gives one of these.
func (m *maker) pick(l ...string) string {
	b := m.bits[0] >> 33 % uint64(len(l))
	m.bits = m.bits[1:]
	return l[b]
}

// of gives one of those words.
func (m *maker) of(words string) string { return m.pick(strings.Fields(words)...) }

// scalar gives a scalar's name, and array one of an array; p and q are parameters.
func (m *maker) scalar() string { return m.of("x y z NF p") }
func (m *maker) array() string  { return m.of("a b q") }

// list gives expressions with commas between.
func (m *maker) list(deep int) string {
	return m.expression(deep) + m.pick("", "", ", "+m.expression(deep))
}

// place gives a place.
func (m *maker) place(deep int) string {
	switch m.of("var elem field") {
	case "elem":
		return m.array() + "[" + m.list(deep) + "]"
	case "field":
		return "$(" + m.expression(deep) + ")"
	}
	return m.scalar()
}

// expression gives one that may stand anywhere; no more than so deep.
func (m *maker) expression(deep int) string {
	if deep == 0 {
		return m.of("1 \"s\" /r/ length x NR $1 z p")
	}
	deep--
	switch m.of("leaf place bin bin group unary cond assign step in call built") {
	case "place":
		return m.place(deep)
	case "bin":
		return "(" + m.expression(deep) + " " + m.of("+ - * / % ^ < <= == != > >= && && || || ~ !~ ~ !~") + " " + m.expression(deep) + ")"
	case "group":
		return "(" + m.expression(deep) + ")"
	case "unary":
		return "(" + m.of("- + !") + m.expression(deep) + ")"
	case "cond":
		return "(" + m.expression(deep) + " ? " + m.expression(deep) + " : " + m.expression(deep) + ")"
	case "assign":
		return "(" + m.place(deep) + m.of("= += -= *= /= %= ^=") + m.expression(deep) + ")"
	case "step":
		return "(" + m.pick("++"+m.place(deep), m.place(deep)+"--") + ")"
	case "in":
		return "((" + m.list(deep) + ") in " + m.array() + ")"
	case "call":
		return m.pick("f()", "f("+m.expression(deep)+")", "f("+m.expression(deep)+", "+m.array()+")", "g()")
	case "built":
		return m.built(deep)
	}
	return m.expression(0)
}

// built gives a call of a function of the language.
func (m *maker) built(deep int) string {
	first := m.expression(deep)
	switch name := m.of("length substr index split sub gsub match sprintf int"); name {
	case "length", "int":
		return name + "(" + first + ")"
	case "split":
		return "split(" + first + ", " + m.array() + m.pick("", ", "+m.expression(deep)) + ")"
	case "sub", "gsub":
		return name + "(" + first + ", " + m.expression(deep) + m.pick("", ", "+m.place(deep)) + ")"
	default:
		return name + "(" + first + ", " + m.expression(deep) + ")"
	}
}

// simple gives a simple statement.
func (m *maker) simple(deep int) string {
	switch m.of("expression expression print delete out out") {
	case "print":
		return m.pick("print", "print "+m.list(deep), "printf "+m.list(deep)) + m.pick("", " > (x)", " >> \"s\"")
	case "delete":
		return "delete " + m.array() + "[" + m.list(deep) + "]"
	case "out":
		if m.loops > 0 && m.of("in out") == "in" {
			return m.of("break continue")
		}
		return m.out(deep)
	}
	return m.expression(deep)
}

// out gives a statement that leaves the part.
func (m *maker) out(deep int) string {
	switch {
	case m.of("exit other other") == "exit":
		return m.pick("exit", "exit "+m.expression(deep))
	case m.function:
		return m.pick("return", "return "+m.expression(deep))
	case m.rules:
		return "next"
	}
	return m.expression(deep)
}

// looped gives a loop's statement.
func (m *maker) looped(deep int) string {
	m.loops++
	s := m.statement(deep)
	m.loops--
	return s
}

// statement gives a statement with its end.
func (m *maker) statement(deep int) string {
	if deep == 0 {
		return m.simple(1) + "\n"
	}
	deep--
	switch m.of("simple simple block block if if while do for for forin") {
	case "block":
		return "{ " + m.statement(deep) + m.statement(deep) + m.statement(deep) + "}\n"
	case "if":
		return "if (" + m.expression(1) + ") " + m.statement(deep) + m.pick("", "else "+m.statement(deep))
	case "while":
		return "while (" + m.expression(1) + ") " + m.looped(deep)
	case "do":
		return "do " + m.looped(deep) + "while (" + m.expression(1) + ")\n"
	case "for":
		return "for (" + m.pick("", m.simple(1)) + "; " + m.pick("", m.expression(1)) + "; " + m.pick("", m.simple(1)) + ") " + m.looped(deep)
	case "forin":
		return "for (" + m.scalar() + " in " + m.array() + ") " + m.looped(deep)
	}
	return m.simple(2) + "\n"
}

// block gives a block.
func (m *maker) block() string {
	return "{ " + m.statement(4) + m.statement(3) + "}\n"
}

// program gives a program.
func (m *maker) program() string {
	m.function = true
	s := "function f(p, q) " + m.block() + "function g() " + m.block()
	m.function = false
	s += "BEGIN " + m.block()
	m.rules = true
	s += m.block() + m.expression(3) + "\n" + m.expression(2) + ", " + m.expression(2) + m.pick("\n", m.block())
	m.rules = false
	return s + "END " + m.block() + "BEGIN { a[1] b[1] q[1] x y z }\nfunction h(p, q) { p = q[1] }\n"
}
