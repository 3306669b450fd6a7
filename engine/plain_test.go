package engine

import (
	"maps"
	"math"
	"slices"
	"strconv"
	"strings"

	"tedder/api"
	"tedder/dec"
	"tedder/ere"
	"tedder/field"
	"tedder/match"
	"tedder/names"
	"tedder/octet"
	"tedder/spell"
	"tedder/value"
	"tedder/words"
)

// halt ends a phase: a fault, exit or next.
type halt string

// scope: variables, by their names.
type scope struct {
	scalars map[string]value.Value
	arrays  map[string]map[string]value.Value
}

// newScope gives one without variables.
func newScope() *scope {
	return &scope{map[string]value.Value{}, map[string]map[string]value.Value{}}
}

// plain is a run that goes through the program's tree, as the chapter tells what it does.
type plain struct {
	lim          api.Limits
	items        []api.Node
	names        api.Names
	globals, own *scope // own: of the function that is done, if one is
	line         string
	fields       []string
	out          string
	files        []api.File
	status       int
	ticks, depth int
	on           map[int]bool
	answer       value.Value
	over         string
	ended        bool
}

// newPlain gives a run of a program whose names are right.
func newPlain(items []api.Node, lim api.Limits) *plain {
	n, _ := names.Resolve(items)
	w := &plain{lim: lim, items: items, names: n, globals: newScope(), on: map[int]bool{}}
	for _, name := range n.Scalars {
		w.globals.scalars[name] = none()
	}
	for _, name := range n.Arrays {
		w.globals.arrays[name] = map[string]value.Value{}
	}
	for name, s := range map[string]string{"FS": " ", "OFS": " ", "ORS": "\n", "RS": "\n", "SUBSEP": "\x1c", "CONVFMT": "%.6g", "OFMT": "%.6g", "FILENAME": ""} {
		w.globals.scalars[name] = str(s)
	}
	for name, x := range map[string]float64{"RSTART": 0, "RLENGTH": -1, "NR": 0, "FNR": 0} {
		w.globals.scalars[name] = num(x)
	}
	return w
}

// phase does what a phase asks for, and tells how it ended.
func (w *plain) phase(do func()) (kind string) {
	w.ticks, w.depth, w.own = 0, 0, nil
	defer func() {
		switch h := recover().(type) {
		case nil:
		case halt:
			if h != "next" {
				kind = string(h)
			}
		default:
			panic(h)
		}
	}()
	do()
	return ""
}

// blocks does the blocks of all items of an Op.
func (w *plain) blocks(op string) {
	for _, item := range w.items {
		if item.Op == op {
			w.statement(item.Kids[0])
		}
	}
}

func (w *plain) begin() api.End {
	if w.over == "" {
		w.over = w.phase(func() { w.blocks("BEGIN") })
	}
	return api.End{Kind: w.over, Status: w.status}
}

func (w *plain) record(line string) api.End {
	if w.over == "" {
		w.over = w.phase(func() {
			for _, name := range []string{"NR", "FNR"} {
				w.globals.scalars[name] = num(value.Number(w.globals.scalars[name]) + 1)
			}
			w.read(line)
			for i, item := range w.items {
				if w.applies(i, item) {
					w.item(item)
				}
			}
		})
	}
	return api.End{Kind: w.over, Status: w.status}
}

func (w *plain) end() api.End {
	switch {
	case w.over != "" && w.over != "exit":
		return api.End{Kind: w.over, Status: w.status}
	case w.ended:
		return api.End{Status: w.status}
	}
	w.ended = true
	kind := w.phase(func() { w.blocks("END") })
	if kind != "" {
		w.over = kind
	}
	return api.End{Kind: kind, Status: w.status}
}

// applies tells whether an item's block is done with this record.
func (w *plain) applies(i int, item api.Node) bool {
	switch {
	case item.Op == "rule":
		return item.Kids[0].Op == "none" || value.True(w.value(item.Kids[0]))
	case item.Op != "range":
		return false
	case !w.on[i] && !value.True(w.value(item.Kids[0])):
		return false
	}
	w.on[i] = !value.True(w.value(item.Kids[1]))
	return true
}

// item does the block of a rule or a range.
func (w *plain) item(item api.Node) {
	block := item.Kids[len(item.Kids)-1]
	if block.Op == "none" {
		w.out += w.line + w.textAt("ORS")
	} else {
		w.statement(block)
	}
}

// text gives a value's text.
func (w *plain) text(v value.Value) string { return w.textBy(v, w.conversion()) }

func (w *plain) textBy(v value.Value, format string) string {
	s, ok := value.Text(v, format)
	if !ok {
		panic(halt("conv"))
	}
	return s
}

func (w *plain) conversion() string {
	s, _ := value.Text(w.globals.scalars["CONVFMT"], "%.6g")
	return s
}

func (w *plain) textAt(name string) string { return w.text(w.globals.scalars[name]) }

// short asks that a text isn't too long.
func (w *plain) short(s string) string {
	if len(s) > w.lim.Length {
		panic(halt("length"))
	}
	return s
}

// read makes a line the record.
func (w *plain) read(line string) {
	fields, ok := field.Split(line, w.textAt("FS"), w.textAt("RS") == "")
	if !ok {
		panic(halt("ere"))
	}
	w.line, w.fields = line, fields
}

// remake makes the line of fields.
func (w *plain) remake(fields []string, ofs string) {
	w.fields = fields
	w.line = w.short(strings.Join(fields, ofs))
}

// cut gives a value's number, cut.
func cut(v value.Value) float64 { return math.Trunc(value.Number(v)) }

// spot: a place: of a field the number, of an element the array and the key, of a variable the scope and the name.
type spot struct {
	op, name string
	scope    *scope
	array    map[string]value.Value
	number   float64
}

// home gives the scope of a variable.
func (w *plain) home(name string) *scope {
	if w.own != nil {
		_, scalar := w.own.scalars[name]
		_, array := w.own.arrays[name]
		if scalar || array {
			return w.own
		}
	}
	return w.globals
}

func (w *plain) array(name string) map[string]value.Value { return w.home(name).arrays[name] }

// spot does what makes a place.
func (w *plain) spot(n api.Node) spot {
	switch n.Op {
	case "field":
		return spot{op: "field", number: cut(w.value(n.Kids[0]))}
	case "elem":
		return spot{op: "elem", array: w.array(n.Text), name: w.key(n.Kids)}
	}
	return spot{op: "var", scope: w.home(n.Text), name: n.Text}
}

// key gives the key that expressions make.
func (w *plain) key(l []api.Node) string {
	var texts []string
	for _, v := range w.values(l) {
		texts = append(texts, w.text(v))
	}
	if len(texts) == 1 {
		return w.short(texts[0])
	}
	return w.short(strings.Join(texts, w.textAt("SUBSEP")))
}

// get gives what is at a place.
func (w *plain) get(s spot) value.Value {
	switch {
	case s.op == "elem":
		if v, ok := s.array[s.name]; ok {
			return v
		}
		return none()
	case s.op == "var" && s.name == "NF":
		return num(float64(len(w.fields)))
	case s.op == "var":
		return s.scope.scalars[s.name]
	case s.number == 0:
		return value.Outside(w.line)
	case s.number >= 1 && s.number <= float64(len(w.fields)):
		return value.Outside(w.fields[int(s.number)-1])
	case s.number >= 1 && s.number <= api.MaxFields:
		return str("")
	}
	panic(halt("field"))
}

// put puts a value at a place.
func (w *plain) put(s spot, v value.Value) {
	switch {
	case s.op == "elem":
		s.array[s.name] = v
	case s.op == "var" && s.name == "NF":
		ofs, n, fields := w.textAt("OFS"), cut(v), slices.Clone(w.fields)
		if !(n >= 0 && n <= float64(max(len(fields), api.MaxFields))) {
			panic(halt("field"))
		}
		for len(fields) < int(n) {
			fields = append(fields, "")
		}
		w.remake(fields[:int(n)], ofs)
	case s.op == "var":
		s.scope.scalars[s.name] = v
	case s.number == 0:
		w.read(w.text(v))
	default:
		text, ofs, fields := w.text(v), w.textAt("OFS"), slices.Clone(w.fields)
		if !(s.number >= 1 && s.number <= float64(max(len(fields), api.MaxFields))) {
			panic(halt("field"))
		}
		for len(fields) < int(s.number) {
			fields = append(fields, "")
		}
		fields[int(s.number)-1] = text
		w.remake(fields, ofs)
	}
}

// values does expressions, from the left to the right.
func (w *plain) values(l []api.Node) []value.Value {
	var all []value.Value
	for _, n := range l {
		all = append(all, w.value(n))
	}
	return all
}

// searched does an expression as of ~: what it finds is read behind all operands.
func (w *plain) searched(n api.Node) value.Value {
	if n.Op == "ere" {
		return str(n.Text)
	}
	return w.value(n)
}

func (w *plain) machine(v value.Value) *match.Machine {
	tree, fault := ere.Parse(w.text(v))
	if fault != 0 {
		panic(halt("ere"))
	}
	return match.New(tree)
}

// value does an expression.
func (w *plain) value(n api.Node) value.Value {
	switch n.Op {
	case "num":
		x, _ := dec.Prefix(n.Text)
		return num(x)
	case "str":
		return str(n.Text)
	case "ere":
		_, _, found := w.machine(str(n.Text)).Find(w.line, 0)
		return truth(found)
	case "group":
		return w.value(n.Kids[0])
	case "var", "field":
		return w.get(w.spot(n))
	case "elem":
		s := w.spot(n)
		s.array[s.name] = w.get(s)
		return s.array[s.name]
	case "in":
		array := w.array(n.Text)
		_, ok := array[w.key(n.Kids)]
		return truth(ok)
	case "unary":
		return w.unary(n)
	case "bin":
		return w.binary(n)
	case "cond":
		if value.True(w.value(n.Kids[0])) {
			return w.value(n.Kids[1])
		}
		return w.value(n.Kids[2])
	case "assign", "pre", "post":
		return w.changed(n)
	case "call":
		return w.call(n)
	}
	return w.built(n)
}

func (w *plain) unary(n api.Node) value.Value {
	v := w.value(n.Kids[0])
	switch n.Text {
	case "!":
		return truth(!value.True(v))
	case "-":
		return num(-value.Number(v))
	}
	return num(value.Number(v))
}

// binary does an op between two expressions.
func (w *plain) binary(n api.Node) value.Value {
	first := w.value(n.Kids[0])
	switch n.Text {
	case "&&":
		return truth(value.True(first) && value.True(w.value(n.Kids[1])))
	case "||":
		return truth(value.True(first) || value.True(w.value(n.Kids[1])))
	case "~", "!~":
		machine := w.machine(w.searched(n.Kids[1]))
		_, _, found := machine.Find(w.text(first), 0)
		return truth(found == (n.Text == "~"))
	}
	second := w.value(n.Kids[1])
	switch n.Text {
	case "cat":
		return str(w.short(w.text(first) + w.text(second)))
	case "+", "-", "*", "/", "%", "^":
		return w.mix(n.Text, first, second)
	}
	order, ok := value.Compare(first, second, w.conversion())
	if !ok {
		panic(halt("conv"))
	}
	return truth(map[string]bool{"<": order < 0, "<=": order <= 0, "==": order == 0, "!=": order != 0, ">": order > 0, ">=": order >= 0}[n.Text])
}

func (w *plain) mix(op string, a, b value.Value) value.Value {
	v, ok := value.Mix(op, a, b)
	if !ok {
		panic(halt(map[string]string{"/": "div", "%": "div", "^": "pow"}[op]))
	}
	return v
}

// changed does what puts something somewhere.
func (w *plain) changed(n api.Node) value.Value {
	s := w.spot(n.Kids[0])
	if n.Op == "assign" {
		v := w.value(n.Kids[1])
		if n.Text != "=" {
			v = w.mix(n.Text[:1], w.get(s), v)
		}
		w.put(s, v)
		return v
	}
	before := num(value.Number(w.get(s)))
	after := w.mix(n.Text[:1], before, num(1))
	w.put(s, after)
	if n.Op == "pre" {
		return after
	}
	return before
}

// tick uses one.
func (w *plain) tick() {
	if w.ticks++; w.ticks > w.lim.Ticks {
		panic(halt("tick"))
	}
}

// call does a call of a function of the program.
func (w *plain) call(n api.Node) value.Value {
	i := slices.IndexFunc(w.items, func(item api.Node) bool { return item.Op == "func" && item.Text == n.Text })
	params, own := w.items[i].Kids[0].Kids, newScope()
	for i, param := range params {
		switch array := slices.Contains(w.names.Params, n.Text+"."+param.Text); {
		case array && i < len(n.Kids):
			own.arrays[param.Text] = w.array(n.Kids[i].Text)
		case array:
			own.arrays[param.Text] = map[string]value.Value{}
		case i < len(n.Kids):
			own.scalars[param.Text] = w.value(n.Kids[i])
		default:
			own.scalars[param.Text] = none()
		}
	}
	w.tick()
	if w.depth++; w.depth > w.lim.Depth {
		panic(halt("depth"))
	}
	before := w.own
	w.own, w.answer = own, none()
	w.statement(w.items[i].Kids[1])
	w.own = before
	w.depth--
	answer := w.answer
	w.answer = none()
	return answer
}

// built does a call of a function of the language.
func (w *plain) built(n api.Node) value.Value {
	switch n.Text {
	case "split":
		return w.split(n)
	case "sub", "gsub":
		return w.replaced(n)
	case "match":
		v := w.value(n.Kids[0])
		what := w.searched(n.Kids[1])
		text := w.text(v)
		place, size := words.Match(w.machine(what), text)
		w.globals.scalars["RSTART"], w.globals.scalars["RLENGTH"] = num(float64(place)), num(float64(size))
		return num(float64(place))
	}
	l := w.values(n.Kids)
	switch n.Text {
	case "length":
		if len(l) == 0 {
			return num(float64(len(w.line)))
		}
		return num(float64(len(w.text(l[0]))))
	case "int":
		return num(cut(l[0]))
	case "index":
		return num(float64(octet.Index(w.text(l[0]), w.text(l[1]))))
	case "tolower":
		return str(octet.Lower(w.text(l[0])))
	case "toupper":
		return str(octet.Upper(w.text(l[0])))
	case "substr":
		if len(l) == 2 {
			return str(words.Substr(w.text(l[0]), value.Number(l[1]), 0, false))
		}
		return str(words.Substr(w.text(l[0]), value.Number(l[1]), value.Number(l[2]), true))
	}
	return str(w.short(w.spelled(l)))
}

func (w *plain) spelled(l []value.Value) string {
	s, ok := spell.Spell(w.text(l[0]), l[1:], w.conversion(), 1<<40)
	if !ok {
		panic(halt("format"))
	}
	return s
}

func (w *plain) split(n api.Node) value.Value {
	v, separator := w.value(n.Kids[0]), w.globals.scalars["FS"]
	switch {
	case len(n.Kids) == 3 && n.Kids[2].Op == "ere":
		separator = str("(" + n.Kids[2].Text + ")")
	case len(n.Kids) == 3:
		separator = w.value(n.Kids[2])
	default:
		separator = w.globals.scalars["FS"]
	}
	fields, ok := field.Split(w.text(v), w.text(separator), w.textAt("RS") == "")
	if !ok {
		panic(halt("ere"))
	}
	array := w.array(n.Kids[1].Text)
	clear(array)
	for i, f := range fields {
		array[strconv.Itoa(i+1)] = value.Outside(f)
	}
	return num(float64(len(fields)))
}

// replaced does sub and gsub.
func (w *plain) replaced(n api.Node) value.Value {
	what, by := w.searched(n.Kids[0]), w.value(n.Kids[1])
	s := spot{op: "field"}
	if len(n.Kids) == 3 {
		s = w.spot(n.Kids[2])
	}
	machine, repl := w.machine(what), w.text(by)
	made, count, ok := words.Sub(machine, repl, w.text(w.get(s)), n.Text == "gsub", w.lim.Length)
	if !ok {
		panic(halt("length"))
	}
	if count > 0 {
		w.put(s, str(made))
	}
	return num(float64(count))
}

// statement does one, and gives what it does to those around: break, continue, return, or nothing.
func (w *plain) statement(n api.Node) string {
	switch n.Op {
	case "block":
		for _, kid := range n.Kids {
			if how := w.statement(kid); how != "" {
				return how
			}
		}
	case "expr":
		w.value(n.Kids[0])
	case "print", "printf":
		w.print(n)
	case "delete":
		array := w.array(n.Text)
		delete(array, w.key(n.Kids))
	case "if":
		if value.True(w.value(n.Kids[0])) {
			return w.statement(n.Kids[1])
		} else if len(n.Kids) == 3 {
			return w.statement(n.Kids[2])
		}
	case "while", "do", "for", "forin":
		return w.loop(n)
	case "break", "continue":
		return n.Op
	case "next":
		panic(halt("next"))
	case "exit":
		w.exit(n.Kids)
	case "return":
		for _, kid := range n.Kids {
			w.answer = w.value(kid)
		}
		return "return"
	}
	return ""
}

func (w *plain) exit(l []api.Node) {
	for _, v := range w.values(l) {
		w.status = 0
		if x := cut(v); !math.IsInf(x, 0) && !math.IsNaN(x) {
			w.status = int(math.Mod(math.Mod(x, 256)+256, 256))
		}
	}
	panic(halt("exit"))
}

// print does print and printf.
func (w *plain) print(n api.Node) {
	l := w.values(n.Kids)
	var file []value.Value
	if n.Text != "" {
		file = l[len(l)-1:]
		l = l[:len(l)-1]
	}
	s := ""
	if n.Op == "printf" {
		s = w.spelled(l)
	} else {
		ofs, texts := w.textAt("OFS"), []string{}
		for _, v := range l {
			format, _ := value.Text(w.globals.scalars["OFMT"], w.conversion())
			texts = append(texts, w.textBy(v, format))
		}
		if len(l) == 0 {
			texts = []string{w.line}
		}
		s = strings.Join(texts, ofs) + w.textAt("ORS")
	}
	if file == nil {
		w.out += s
		return
	}
	name := w.text(file[0])
	if name == "" {
		panic(halt("file"))
	}
	i := slices.IndexFunc(w.files, func(f api.File) bool { return f.Name == name })
	if i < 0 {
		i = len(w.files)
		w.files = append(w.files, api.File{Name: name})
	}
	w.files[i].Data += s
}

// loop does a loop.
func (w *plain) loop(n api.Node) string {
	switch n.Op {
	case "for":
		if how := w.statement(n.Kids[0]); how != "" {
			return how
		}
	case "forin":
		return w.forIn(n)
	}
	for first := true; ; first = false {
		statement := n.Kids[len(n.Kids)-1]
		switch n.Op {
		case "while":
			if !value.True(w.value(n.Kids[0])) {
				return ""
			}
		case "do":
			statement = n.Kids[0]
			if !first && !value.True(w.value(n.Kids[1])) {
				return ""
			}
		case "for":
			if !first {
				if how := w.statement(n.Kids[2]); how != "" {
					return how
				}
			}
			if n.Kids[1].Op != "none" && !value.True(w.value(n.Kids[1])) {
				return ""
			}
		}
		w.tick()
		if how := w.statement(statement); how == "break" {
			return ""
		} else if how == "return" {
			return how
		}
	}
}

func (w *plain) forIn(n api.Node) string {
	s := spot{op: "var", scope: w.home(n.Text), name: n.Text}
	for _, key := range slices.Sorted(maps.Keys(w.array(n.Kids[0].Text))) {
		w.put(s, value.Outside(key))
		w.tick()
		if how := w.statement(n.Kids[1]); how == "break" {
			break
		} else if how == "return" {
			return how
		}
	}
	return ""
}
