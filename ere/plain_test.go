package ere

import (
	"regexp"
	"strconv"
	"testing"

	"tedder/api"
	"tedder/sample"
)

// token is what stands in an expression, whatever is around it: an atom with its tree, a repeat with its bounds, ( ) or |, or a fault.
type token struct {
	kind   string
	tree   api.Ere
	lo, hi int
	fault  int
}

// wide gives each byte of s as a rune, so that a pattern's dot is a byte.
func wide(s string) string {
	var l []rune
	for i := range len(s) {
		l = append(l, rune(s[i]))
	}
	return string(l)
}

// Patterns of tokens: an item that is a byte, one behind a range's -, and what they make.
const (
	itemPattern  = `(?:\\[0-7]{1,3}|\\[^0-7]|[^\\])`
	endPattern   = `(?:\\[0-7]{1,3}|\\[^0-7]|[^\\\]])`
	classPattern = `\[:(alpha|digit|alnum|upper|lower|space|blank|punct|print|graph|cntrl|xdigit):\]`
)

// scanner cuts tokens off a text by patterns.
type scanner struct {
	class, classRange, toClass, toEscape, span, item *regexp.Regexp
	simple, exact, least, between, interval, escape  *regexp.Regexp
	classes                                          map[string]string
}

func newScanner() *scanner {
	at := func(pattern string) *regexp.Regexp { return regexp.MustCompile(`(?s)\A(?:` + pattern + `)`) }
	return &scanner{
		class:      at(classPattern),
		classRange: at(classPattern + `-(?:[^\]]|\z)`),
		toClass:    at(itemPattern + `-\[:`),
		toEscape:   at(itemPattern + `-\\\z`),
		span:       at(`(` + itemPattern + `)-(` + endPattern + `)`),
		item:       at(itemPattern),
		simple:     at(`[*+?]`),
		exact:      at(`\{([0-9]+)\}`),
		least:      at(`\{([0-9]+),\}`),
		between:    at(`\{([0-9]+),([0-9]+)\}`),
		interval:   at(`\{[0-9]`),
		escape:     at(`\\[0-7]{1,3}|\\[^0-7]`),
		classes:    classBytes(),
	}
}

// meant gives the byte that an item stands for.
func meant(item string) byte {
	l := []rune(item)
	if len(l) == 1 {
		return byte(l[0])
	}
	if n, err := strconv.ParseInt(item[1:], 8, 0); err == nil {
		return byte(n % 256)
	}
	if b, ok := map[rune]byte{'a': 7, 'b': 8, 'f': 12, 'n': 10, 'r': 13, 't': 9, 'v': 11}[l[1]]; ok {
		return b
	}
	return byte(l[1])
}

// items reads items up to the ] that ends them: the bytes they stand for, and what is behind; or a fault.
func (sc *scanner) items(s string) (string, string, int) {
	var in []byte
	for first := true; ; first = false {
		if !first && s != "" && s[0] == ']' {
			return sorted(string(in)), s[1:], 0
		}
		m := sc.class.FindStringSubmatch(s)
		switch {
		case m != nil && !sc.classRange.MatchString(s):
			in = append(in, sc.classes[m[1]]...)
			s = s[len(m[0]):]
			continue
		case len(s) > 1 && s[:2] == "[:", sc.toClass.MatchString(s), s == "":
			return "", "", api.EreBracket
		case s == `\`, sc.toEscape.MatchString(s):
			return "", "", api.EreEscape
		}
		m = sc.span.FindStringSubmatch(s)
		if m == nil {
			item := sc.item.FindString(s)
			m = []string{item, item, item}
		}
		lo, hi := int(meant(m[1])), int(meant(m[2]))
		if lo > hi {
			return "", "", api.EreBracket
		}
		for c := lo; c <= hi; c++ {
			in = append(in, byte(c))
		}
		s = s[len(m[0]):]
	}
}

// bounded gives the repeat of two counts.
func bounded(lo, hi string) token {
	m, err := strconv.Atoi(lo)
	n, err2 := strconv.Atoi(hi)
	if err != nil || err2 != nil || m > 255 || n > 255 || n >= 0 && m > n {
		return token{kind: "fault", fault: api.EreRepeat}
	}
	return token{kind: "rep", lo: m, hi: n}
}

// bracket cuts a set off s, behind its [.
func (sc *scanner) bracket(s string) (token, string) {
	turn := sorted
	if s != "" && s[0] == '^' {
		s, turn = s[1:], without
	}
	in, rest, fault := sc.items(s)
	if fault != 0 {
		return token{kind: "fault", fault: fault}, ""
	}
	return token{kind: "atom", tree: set(turn(in))}, rest
}

// repeat cuts a repeat off s.
func (sc *scanner) repeat(s string) (token, string) {
	if m := sc.exact.FindStringSubmatch(s); m != nil {
		return bounded(m[1], m[1]), s[len(m[0]):]
	}
	if m := sc.least.FindStringSubmatch(s); m != nil {
		return bounded(m[1], "-1"), s[len(m[0]):]
	}
	if m := sc.between.FindStringSubmatch(s); m != nil {
		return bounded(m[1], m[2]), s[len(m[0]):]
	}
	switch s[0] {
	case '*':
		return bounded("0", "-1"), s[1:]
	case '+':
		return bounded("1", "-1"), s[1:]
	case '?':
		return bounded("0", "1"), s[1:]
	}
	return token{kind: "fault", fault: api.EreRepeat}, ""
}

// cut cuts a token off s.
func (sc *scanner) cut(s string) (token, string) {
	switch {
	case sc.simple.MatchString(s), sc.interval.MatchString(s):
		return sc.repeat(s)
	case s[0] == '(', s[0] == ')', s[0] == '|':
		return token{kind: s[:1]}, s[1:]
	case s[0] == '[':
		return sc.bracket(s[1:])
	case s == `\`:
		return token{kind: "fault", fault: api.EreEscape}, ""
	case s[0] == '.':
		return token{kind: "atom", tree: set(sample.AllBytes())}, s[1:]
	case s[0] == '^':
		return token{kind: "atom", tree: bol()}, s[1:]
	case s[0] == '$':
		return token{kind: "atom", tree: eol()}, s[1:]
	}
	item := sc.item.FindString(s)
	return token{kind: "atom", tree: set(string([]byte{meant(item)}))}, s[len(item):]
}

// closed gives the tree of branches.
func closed(branches [][]api.Ere) api.Ere {
	var kids []api.Ere
	for _, pieces := range branches {
		kid := cat(pieces...)
		if len(pieces) == 1 {
			kid = pieces[0]
		}
		kids = append(kids, kid)
	}
	if len(kids) == 1 {
		return kids[0]
	}
	return alt(kids...)
}

// plainSize says the chapter's words of sizes again.
func plainSize(e api.Ere) float64 {
	sum := 0.0
	for _, kid := range e.Kids {
		sum += plainSize(kid)
	}
	switch {
	case e.Op == "cat":
		return sum
	case e.Op == "alt":
		return sum + 1
	case e.Op != "rep":
		return 1
	case e.Hi == -1:
		return sum*max(1, float64(e.Lo)+1) + 1
	}
	return sum*max(1, float64(e.Hi)) + 1
}

// plainParse says the chapter's words again: token by token, with a stack of the groups that are open.
func (sc *scanner) plainParse(text string) (api.Ere, int) {
	stack := [][][]api.Ere{{nil}}
	for s := wide(text); s != ""; {
		var next token
		next, s = sc.cut(s)
		branches := stack[len(stack)-1]
		pieces := branches[len(branches)-1]
		switch {
		case next.kind == "fault":
			return api.Ere{}, next.fault
		case next.kind == "(" && len(stack) > 100, next.kind == ")" && len(stack) == 1:
			return api.Ere{}, api.EreParen
		case next.kind == "rep" && len(pieces) == 0:
			return api.Ere{}, api.EreRepeat
		case next.kind == "(":
			stack = append(stack, [][]api.Ere{nil})
			continue
		case next.kind == "|":
			stack[len(stack)-1] = append(branches, nil)
			continue
		case next.kind == ")":
			stack = stack[:len(stack)-1]
			next.tree = closed(branches)
			branches = stack[len(stack)-1]
		case next.kind == "rep":
			pieces[len(pieces)-1] = rep(next.lo, next.hi, pieces[len(pieces)-1])
			continue
		}
		branches[len(branches)-1] = append(branches[len(branches)-1], next.tree)
	}
	if len(stack) > 1 {
		return api.Ere{}, api.EreParen
	}
	e := closed(stack[0])
	if plainSize(e) > 2000 {
		return api.Ere{}, api.EreBig
	}
	return e, 0
}

// P3.1: Parse of all small texts of bytes that mean something is what the chapter's words tell.
func TestSmallTexts(t *testing.T) {
	sc := newScanner()
	var texts []string
	texts = append(texts, sample.Texts(sample.AllBytes(), 1)...)
	texts = append(texts, sample.Texts("a1|()[]*{,}\\^$.-:?", 4)...)
	texts = append(texts, sample.Texts("a(|)*", 7)...)
	texts = append(texts, sample.Texts("ab]^-\\", 6)...)
	for _, s := range sample.Texts("12,}{x", 5) {
		texts = append(texts, "a{"+s)
	}
	for _, s := range sample.Texts("a]^-[:\\1", 5) {
		texts = append(texts, "["+s, "["+s+"]")
	}
	for _, s := range texts {
		e, fault := sc.plainParse(s)
		checkParse(t, s, e, fault)
		if t.Failed() {
			return
		}
	}
}

// manyParts gives pieces of which texts are made.
func manyParts() []string {
	return []string{
		"a", "z", "0", "A", "-", "]", "^", "$", ".", "[", "[^", "[]", "[^]", "(", "(", ")", ")", "|", "*", "+", "?", "{", "{2}", "{0}", "{1,}", "{2,5}", "{5,2}", "{255}", "{256}", "{30,}", "{,3}", "{3",
		"[:alpha:]", "[:digit:]", "[:nope:]", "[[:punct:]]", "[[:space:]-", "[a-z]", "[^0-9]", "[z-a]", "[]-a]", "[a-", "[:", ":]", "\\", `\n`, `\141`, `\777`, `\1`, `\]`, `\-`, "\xff", "\x80", "\u00e9", "\x00", "\n", "(a|b)", "(ab)*", "a{9}", "()",
	}
}

// P3.1: Parse of long mixed texts is what the chapter's words tell.
func TestMixedTexts(t *testing.T) {
	sc := newScanner()
	parts := manyParts()
	faults := [6]int{}
	bits := sample.Bits(800000)
	for len(bits) > 16 {
		count := int(bits[0]>>40) % 16
		s := ""
		for _, b := range bits[1 : 1+count] {
			s += parts[int(b>>40)%len(parts)]
		}
		bits = bits[1+count:]
		e, fault := sc.plainParse(s)
		checkParse(t, s, e, fault)
		if t.Failed() {
			return
		}
		faults[fault]++
	}
	for fault, count := range faults {
		if count < 100 {
			t.Errorf("%d texts of fault %d", count, fault)
		}
	}
}
