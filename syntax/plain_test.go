package syntax

import (
	"slices"
	"strconv"
	"strings"
	"testing"

	"tedder/api"
	"tedder/lex"
	"tedder/sample"
)

// plainRules are the chapter's words again: what a part is made of, and the node it is, the number being that of what has its Text. A part in < > is another one; !.. asks for what stands next and reads nothing.
const plainRules = `
program -> <ends> <items>
items ->
items -> <item> !itemEnd <ends> <items>
item -> BEGIN <block> => BEGIN
item -> END <block> => END
item -> function <NAME> ( <params> ) <nls> <block> => func 2
item -> <1> <missing> => rule
item -> <1> <block> => rule
item -> <missing> <block> => rule
item -> <1> , <nls> <1> <missing> => range
item -> <1> , <nls> <1> <block> => range
params -> => params
params -> <names> => params
names -> <var>
names -> <names> , <nls> <var>
missing -> => none
NAME -> name
NAME -> func
var -> name => var 1
nls ->
nls -> nl <nls>
ends ->
ends -> nl <ends>
ends -> ; <ends>

block -> { <ends> <statements> } => block
statements ->
statements -> <full> <ends> <statements>
statement -> <full>
statement -> ; => none
full -> <simple> !simpleEnd
full -> do <nls> <statement> <ends> while ( <1> ) !simpleEnd => do
full -> <block>
full -> if ( <1> ) <nls> <statement> !noElse => if
full -> if ( <1> ) <nls> <statement> <ends> else <nls> <statement> => if
full -> while ( <1> ) <nls> <statement> => while
full -> for ( <head> ; <nls> <1> ; <nls> <head> ) <nls> <statement> => for
full -> for ( <head> ; <nls> <missing> ; <nls> <head> ) <nls> <statement> => for
full -> for ( <NAME> in <var> ) <nls> <statement> => forin 3
head -> <simple>
head -> <missing>
simple -> <1> => expr
simple -> print => print
simple -> print <printed> => print
simple -> print <to> <8> => print 2
simple -> print <printed> <to> <8> => print 3
simple -> printf <printed> => printf
simple -> printf <printed> <to> <8> => printf 3
simple -> next => next
simple -> break => break
simple -> continue => continue
simple -> exit => exit
simple -> exit <1> => exit
simple -> return => return
simple -> return <1> => return
simple -> delete <NAME> [ <list> ] => delete 2
to -> >
to -> >>
printed -> <1p>
printed -> <listp> , <nls> <1p>
printed -> ( <list> , <nls> <1> )
listp -> <1p>
listp -> <listp> , <nls> <1p>
list -> <1>
list -> <list> , <nls> <1>

1 -> <place> <put> <1> => assign 2
1 -> <2>
put -> =
put -> +=
put -> -=
put -> *=
put -> /=
put -> %=
put -> ^=
2 -> <3> ? <nls> <1> : <nls> <1> => cond
2 -> <3>
3 -> <3> || <nls> <4> => bin 2
3 -> <4>
4 -> <4> && <nls> <5> => bin 2
4 -> <5>
5 -> <5> in <NAME> => in 3
5 -> <6>
6 -> <6> ~ <7> => bin 2
6 -> <6> !~ <7> => bin 2
6 -> <7>
7 -> <8> < <8> => bin 2
7 -> <8> <= <8> => bin 2
7 -> <8> == <8> => bin 2
7 -> <8> != <8> => bin 2
7 -> <8> > <8> => bin 2
7 -> <8> >= <8> => bin 2
7 -> <8>
8 -> <8> !second <9> => bin cat
8 -> <9>
9 -> <9> + <10> => bin 2
9 -> <9> - <10> => bin 2
9 -> <10>
10 -> <10> * <11> => bin 2
10 -> <10> / <11> => bin 2
10 -> <10> % <11> => bin 2
10 -> <11>
11 -> ! <11> => unary 1
11 -> + <11> => unary 1
11 -> - <11> => unary 1
11 -> <12>
12 -> <13> ^ <behind> => bin 2
12 -> <13>
behind -> + <behind> => unary 1
behind -> - <behind> => unary 1
behind -> <12>
13 -> <step> <place> => pre 1
13 -> <place> <step> => post 2
13 -> <place> !noStep
13 -> <other>
step -> ++
step -> --
place -> <NAME> !noCall => var 1
place -> <NAME> [ <list> ] => elem 1
place -> $ <stepped> => field
place -> $ <place> => field
place -> $ <other> => field
stepped -> <step> <place> => pre 1
other -> num => num 1
other -> str => str 1
other -> ere => ere 1
other -> ( <1> ) => group
other -> ( <list> , <nls> <1> ) in <NAME> => in 8
other -> func ( ) => call 1
other -> func ( <list> ) => call 1
other -> built ( ) => built 1
other -> built ( <list> ) => built 1
other -> length !noParen => built 1
`

// plainPart is a part of a rule: another part of the language, a token, or what is asked of the next token.
type plainPart struct {
	name  string
	rules int // the place of the other part's rules, from 1 on
	least int // how many tokens this part and those behind it have at least
}

// plainRule is one way in which a part is made: of what it is made, and the node it is.
type plainRule struct {
	parts  []plainPart
	op     string
	text   string
	source int // which of the parts gives the text, from 1 on
}

// grammar has the ways in which each part is made; program is the first one.
type grammar struct {
	places map[string]int
	rules  [][]plainRule
}

func newGrammar() *grammar {
	g := &grammar{places: map[string]int{}, rules: [][]plainRule{nil}}
	for line := range strings.Lines(plainRules) {
		name, rest, ok := strings.Cut(strings.TrimSpace(line), " ->")
		if !ok {
			continue
		}
		g.add(name, rest)
		// In what is printed a > is none of the language's ops: the same levels again, but for that.
		if name[0] <= '9' && !strings.Contains(rest, " > ") {
			for level := range 13 {
				n := strconv.Itoa(level + 1)
				rest = strings.ReplaceAll(rest, "<"+n+">", "<"+n+"p>")
			}
			g.add(name+"p", rest)
		}
	}
	return g
}

// place gives the place of a part's rules.
func (g *grammar) place(name string) int {
	if g.places[name] == 0 {
		g.places[name] = len(g.rules)
		g.rules = append(g.rules, nil)
	}
	return g.places[name]
}

func (g *grammar) add(name, text string) {
	place := g.place(name)
	parts, made, _ := strings.Cut(text+" ", "=> ")
	var r plainRule
	r.op, r.text, _ = strings.Cut(strings.TrimSpace(made), " ")
	if source, err := strconv.Atoi(r.text); err == nil {
		r.source, r.text = source, ""
	}
	for _, part := range strings.Fields(parts) {
		p := plainPart{name: part, least: 1}
		switch {
		case part[0] == '<' && len(part) > 2:
			p.rules = g.place(part[1 : len(part)-1])
			if slices.Contains(strings.Fields("<nls> <ends> <items> <statements> <params> <missing> <head>"), part) {
				p.least = 0
			}
		case part[0] == '!' && len(part) > 2:
			p.least = 0
		}
		r.parts = append(r.parts, p)
	}
	for i := len(r.parts) - 2; i >= 0; i-- {
		r.parts[i].least += r.parts[i+1].least
	}
	g.rules[place] = append(g.rules[place], r)
}

// reading is one way to read tokens as a part: the nodes it makes, and its first token's text.
type reading struct {
	nodes []api.Node
	text  string
}

// plainReader finds all readings of tokens.
type plainReader struct {
	g      *grammar
	tokens []api.Token
	known  map[int][]reading
}

func (r *plainReader) token(at int) api.Token {
	if at < len(r.tokens) {
		return r.tokens[at]
	}
	return api.Token{Kind: "end"}
}

// fits tells whether a token is of a part that isn't made of others.
func fits(t api.Token, part string) bool {
	switch t.Kind {
	case "op", "word":
		return t.Text == part
	case "built":
		return part == "built" || part == "length" && t.Text == part
	}
	return t.Kind == part
}

// asked tells whether what stands at a token is as asked for.
func (r *plainReader) asked(part string, at int) bool {
	t := r.token(at)
	line := fits(t, "nl") || fits(t, ";")
	switch part {
	case "!itemEnd":
		return line || fits(t, "end") || fits(r.token(at-1), "}")
	case "!simpleEnd":
		return line || fits(t, "}")
	case "!noElse":
		for fits(r.token(at), "nl") || fits(r.token(at), ";") {
			at++
		}
		return !fits(r.token(at), "else")
	case "!second":
		return slices.Contains(strings.Fields("num str ere name func built"), t.Kind) || fits(t, "$") || fits(t, "(") || fits(t, "++") || fits(t, "--")
	case "!noStep":
		return !fits(t, "++") && !fits(t, "--")
	case "!noCall":
		return !fits(r.token(at-1), "func")
	case "!noParen":
		return !fits(t, "(")
	}
	panic(part)
}

// row hands on all readings of the parts, behind those that were read ahead of them.
func (r *plainReader) row(parts []plainPart, ahead []reading, from, to int, found func([]reading)) {
	if len(parts) == 0 {
		if from == to {
			found(ahead)
		}
		return
	}
	first, rest := parts[0], parts[1:]
	after := 0
	if len(rest) > 0 {
		after = rest[0].least
	}
	switch {
	case first.rules > 0:
		for at := from; at <= to-after; at++ {
			for _, one := range r.read(first.rules, from, at) {
				r.row(rest, append(ahead, one), at, to, found)
			}
		}
	case first.name[0] == '!' && len(first.name) > 2:
		if r.asked(first.name, from) {
			r.row(rest, append(ahead, reading{}), from, to, found)
		}
	case from < to && fits(r.tokens[from], first.name):
		r.row(rest, append(ahead, reading{text: r.tokens[from].Text}), from+1, to, found)
	}
}

// read gives all readings of a part.
func (r *plainReader) read(rules, from, to int) []reading {
	key := (rules*(len(r.tokens)+1)+from)*(len(r.tokens)+1) + to
	if l, ok := r.known[key]; ok {
		return l
	}
	var all []reading
	for _, rule := range r.g.rules[rules] {
		if len(rule.parts) == 0 || rule.parts[0].least <= to-from {
			r.row(rule.parts, nil, from, to, func(l []reading) { all = append(all, made(rule, l)) })
		}
	}
	r.known[key] = all
	return all
}

// made gives the reading of a rule with readings of its parts.
func made(rule plainRule, l []reading) reading {
	var whole reading
	for _, part := range l {
		whole.nodes = append(whole.nodes, part.nodes...)
	}
	if rule.op == "" {
		if len(l) > 0 {
			whole.text = l[0].text
		}
		return whole
	}
	n := api.Node{Op: rule.op, Text: rule.text, Kids: whole.nodes}
	if rule.source > 0 {
		n.Text = l[rule.source-1].text
	}
	return reading{nodes: []api.Node{n}}
}

// plainRight says again what is no program though its tokens are in order, of the nodes in n.
func plainRight(n api.Node, item string, inLoop bool, deep int) bool {
	counts := map[string]string{"length": "01", "substr": "23", "index": "2", "match": "2", "split": "23", "sub": "23", "gsub": "23", "tolower": "1", "toupper": "1", "int": "1"}
	kinds := map[string]int{"var": 1, "elem": 1, "field": 1}
	switch {
	case deep > 200,
		n.Op == "next" && item != "rule" && item != "range",
		n.Op == "return" && item != "func",
		(n.Op == "break" || n.Op == "continue") && !inLoop,
		n.Op == "built" && n.Text == "sprintf" && len(n.Kids) == 0,
		n.Op == "built" && n.Text != "sprintf" && (len(n.Kids) > 9 || !strings.Contains(counts[n.Text], string(rune('0'+len(n.Kids))))),
		n.Op == "built" && n.Text == "split" && n.Kids[1].Op != "var",
		n.Op == "built" && (n.Text == "sub" || n.Text == "gsub") && len(n.Kids) == 3 && kinds[n.Kids[2].Op] == 0:
		return false
	}
	statement := map[string]int{"while": 2, "do": 1, "for": 4, "forin": 2}[n.Op]
	for i, kid := range n.Kids {
		if !plainRight(kid, item, inLoop || i+1 == statement, deep+1) {
			return false
		}
	}
	return true
}

// plainParse says the chapter's words again; more than one tree is a fault of its own.
func plainParse(t *testing.T, g *grammar, s string) ([]api.Node, bool) {
	t.Helper()
	tokens, ok := lex.Lex(s)
	if !ok {
		return nil, false
	}
	r := plainReader{g, tokens, map[int][]reading{}}
	all := r.read(g.place("program"), 0, len(tokens))
	if len(all) > 1 {
		t.Errorf("%q can be read in %d ways", s, len(all))
		for _, a := range all {
			t.Errorf("  %s", shownAll(a.nodes))
		}
	}
	if len(all) == 0 {
		return nil, false
	}
	for _, item := range all[0].nodes {
		if !plainRight(item, item.Op, false, 1) {
			return nil, false
		}
	}
	return all[0].nodes, true
}

// checkPlain asks that Parse of s is what the chapter's words tell, and gives whether s is a program.
func checkPlain(t *testing.T, g *grammar, s string) bool {
	t.Helper()
	items, ok := plainParse(t, g, s)
	if ok {
		checkItems(t, s, items)
	} else {
		checkNone(t, s)
	}
	return ok
}

// written gives words as a text: nl is an end of a line, and behind f( stands what is in parentheses.
func written(words []string) string {
	return strings.ReplaceAll(strings.Join(words, " "), "nl", "\n")
}

// rows gives all rows of at most size of the words, as texts.
func rows(words string, size int) []string {
	l := strings.Fields(words)
	var letters []byte
	for i := range l {
		letters = append(letters, byte(i))
	}
	var texts []string
	for _, row := range sample.Texts(string(letters), size) {
		var parts []string
		for i := range len(row) {
			parts = append(parts, l[row[i]])
		}
		texts = append(texts, written(parts))
	}
	return texts
}

// P6.1: Parse of all short rows of tokens is what the chapter's words tell.
func TestShortRows(t *testing.T) {
	g := newGrammar()
	for _, c := range []struct {
		ahead, words, behind string
		size                 int
	}{
		{"", "a 1 ++ $ ( ) =", "", 4},
		{"", "$ ++ a -", "", 6},
		{"", "a + - ! ^ b", "", 4},
		{"", "a ^ -", "", 7},
		{"", "a = += ? : b", "", 5},
		{"", "a < > ~ in b +", "", 4},
		{"", "a , ( ) in b", "", 5},
		{"", "a && || nl b ?", "", 4},
		{"", "f( length substr( ) a , 1", "", 4},
		{"", "a [ ] $ ++ --", "", 5},
		{"", "BEGIN END function { } nl ; f a", "", 4},
		{"", "a , { } nl ;", "", 4},
		{"function f(", "a , b nl )", "{}", 5},
		{"{", "a ; nl { } if(a) else", "}", 4},
		{"{", "a ; nl do while(b) { }", "}", 4},
		{"{", "print printf a , ( ) >", "}", 4},
		{"{", "print( a , > ) b", "}", 5},
		{"{", "print a >> > [ ] b ++", "}", 4},
		{"{ for(", "a ; nl )", "}", 5},
		{"{ for(", "a in ) ; (", "}", 5},
		{"{", "for(;;) break continue ; nl while(a) next", "}", 3},
		{"{ delete", "a [ ] , 1", "}", 5},
		{"function f() {", "exit return 1 ; nl next", "}", 4},
		{"BEGIN {", "exit return next ; nl break", "}", 3},
	} {
		t.Run(c.ahead+c.words, func(t *testing.T) {
			t.Parallel()
			count := 0
			for _, s := range rows(c.words, c.size) {
				if checkPlain(t, g, c.ahead+s+c.behind) {
					count++
				}
				if t.Failed() {
					return
				}
			}
			if count < 8 {
				t.Errorf("%d programs", count)
			}
		})
	}
}

// maker makes sentences of a grammar, by bits.
type maker struct {
	g       *grammar
	heights []int // how many parts within parts each part makes at least
	bits    []uint64
}

func newMaker(g *grammar, bits []uint64) *maker {
	m := &maker{g, make([]int, len(g.rules)), bits}
	for i := range m.heights {
		m.heights[i] = 99
	}
	for range m.heights {
		for i, rules := range g.rules {
			for _, r := range rules {
				m.heights[i] = min(m.heights[i], m.height(r))
			}
		}
	}
	return m
}

func (m *maker) height(r plainRule) int {
	most := 0
	for _, part := range r.parts {
		if part.rules > 0 {
			most = max(most, m.heights[part.rules])
		}
	}
	return most + 1
}

// pick gives a number below count.
func (m *maker) pick(count int) int {
	b := m.bits[0]
	m.bits = m.bits[1:]
	return int(b>>40) % count
}

// sentence gives words that may be read as the part; beyond the height, short ones.
func (m *maker) sentence(rules, height int) []string {
	fit := slices.DeleteFunc(slices.Clone(m.g.rules[rules]), func(r plainRule) bool {
		return m.height(r) > max(height, m.heights[rules])
	})
	// Often the shortest, so that sentences don't become long by ends of lines and operators alone.
	if m.pick(2) == 0 {
		slices.SortStableFunc(fit, func(a, b plainRule) int { return len(a.parts) - len(b.parts) })
		fit = slices.DeleteFunc(fit, func(r plainRule) bool { return len(r.parts) > len(fit[0].parts) })
	}
	var words []string
	for _, part := range fit[m.pick(len(fit))].parts {
		if part.rules > 0 {
			words = append(words, m.sentence(part.rules, height-1)...)
		} else if part.name[0] != '!' || len(part.name) <= 2 {
			words = append(words, m.word(part.name))
		}
	}
	return words
}

// word gives a word of a kind, or the word itself.
func (m *maker) word(kind string) string {
	choices, ok := map[string]string{
		"num": "1 2.5 .5e3", "str": `"" "s" "(" "a\tb"`, "ere": "/r/ /[,]/", "name": "a b x NR", "func": "f g",
		"built": "length substr index split sub gsub match sprintf tolower toupper int",
	}[kind]
	if !ok {
		return kind
	}
	l := strings.Fields(choices)
	return l[m.pick(len(l))]
}

// changed gives words with one left out, doubled, swapped or replaced.
func (m *maker) changed(words []string) []string {
	words = slices.Clone(words)
	if len(words) == 0 {
		return words
	}
	i, j := m.pick(len(words)), m.pick(len(words))
	switch m.pick(4) {
	case 0:
		return slices.Delete(words, i, i+1)
	case 1:
		return slices.Insert(words, i, words[i])
	case 2:
		words[i], words[j] = words[j], words[i]
	default:
		others := strings.Fields("nl ; , ( ) { } [ ] + - ! ++ -- = > >> in $ a 1 f( length else if while do for print next return break")
		words[i] = others[m.pick(len(others))]
	}
	return words
}

// P6.1: Parse of mixed programs, and of what is nearly one, is what the chapter's words tell.
func TestMixedPrograms(t *testing.T) {
	g := newGrammar()
	m := newMaker(g, sample.Bits(4000000))
	programs := [2]int{}
	for len(m.bits) > 4000 {
		parts := []string{"program", "item", "block", "full", "1"}
		words := m.sentence(g.place(parts[m.pick(len(parts))]), 12+m.pick(30))
		if len(words) < 5 || len(words) > 28 {
			continue
		}
		if m.pick(3) == 0 {
			words = m.changed(words)
		}
		s := written(words)
		for _, name := range []string{"f", "g"} {
			s = strings.ReplaceAll(" "+s, " "+name+" (", " "+name+"(")
		}
		if m.pick(2) == 0 {
			s = "{" + s + "}"
		}
		programs[map[bool]int{true: 1}[checkPlain(t, g, s)]]++
		if t.Failed() {
			return
		}
	}
	if min(programs[0], programs[1]) < 500 {
		t.Errorf("%d texts are no program, %d are one", programs[0], programs[1])
	}
}
