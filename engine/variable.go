package engine

import (
	"strings"

	"tedder/api"
	"tedder/assoc"
	"tedder/lex"
	"tedder/value"
)

// makeVariables makes the program's global variables, and the special ones.
func (e *Engine) makeVariables(known api.Names) {
	e.scalars, e.arrays = map[string]place{}, map[string]*assoc.Array{}
	for _, name := range known.Scalars {
		e.scalars[name] = &variable{none()}
	}
	for _, name := range known.Arrays {
		e.arrays[name] = assoc.New()
	}
	for _, name := range []string{"NR", "FNR", "RSTART"} {
		e.scalars[name] = &variable{num(0)}
	}
	e.scalars["RLENGTH"] = &variable{num(-1)}
	for _, s := range [][2]string{{"FS", " "}, {"OFS", " "}, {"ORS", "\n"}, {"RS", "\n"}, {"FILENAME", ""}, {"SUBSEP", "\x1c"}, {"CONVFMT", "%.6g"}, {"OFMT", "%.6g"}} {
		e.scalars[s[0]] = &variable{str(s[1])}
	}
	e.scalars["NF"] = fieldCount{}
}

// scalar gives what is at a scalar; none, if there is no such one.
func (e *Engine) scalar(name string) value.Value {
	at := e.scalars[name]
	if at == nil {
		return none()
	}
	v, _ := at.get(e)
	return v
}

// Assign puts a text from outside at a scalar; false, if nothing may be put at one of that name.
func (e *Engine) Assign(name, text string) bool {
	return e.set(name, value.Outside(strings.Clone(text)))
}

// Set puts what v tells at a scalar; false, if nothing may be put at one of that name.
func (e *Engine) Set(name string, v api.Val) bool {
	return e.set(name, copied(v))
}

// SetAt puts what v tells at a key of an array; false, if the program has no global one of that name.
func (e *Engine) SetAt(name, key string, v api.Val) bool {
	if !e.goesOn() || e.arrays[name] == nil {
		return false
	}
	e.arrays[name].Put(key, copied(v))
	return true
}

// copied gives the value that v tells, which shares no memory with it.
func copied(v api.Val) value.Value {
	v.Str = strings.Clone(v.Str)
	return value.Of(v)
}

// set puts v at a scalar, which is made if need be; false, if nothing may be put at one of that name, or the run is over.
func (e *Engine) set(name string, v value.Value) bool {
	if !e.goesOn() || !isName(name) || name == "NF" || e.arrays[name] != nil || e.program.functions[name] != nil {
		return false
	}
	if at := e.scalars[name]; at != nil {
		return at.put(e, v)
	}
	e.scalars[strings.Clone(name)] = &variable{v}
	return true
}

// isName tells whether s is a name, and nothing beside.
func isName(s string) bool {
	tokens, ok := lex.Lex(s)
	return ok && len(tokens) == 1 && tokens[0] == api.Token{Kind: "name", Text: s}
}

// Text gives a scalar's text; the empty one, if it isn't made.
func (e *Engine) Text(name string) string {
	if !e.made() {
		return ""
	}
	if name == "CONVFMT" {
		return e.conversion()
	}
	text, _ := value.Text(e.scalar(name), e.conversion())
	return text
}

// Get gives a scalar's Val; none, of what there isn't.
func (e *Engine) Get(name string) api.Val {
	if !e.made() {
		return api.Val{}
	}
	return value.Plain(e.scalar(name))
}

// Keys gives the keys of an array, rising.
func (e *Engine) Keys(name string) []string {
	if !e.made() {
		return nil
	}
	return e.arrays[name].Keys()
}

// At gives the Val at a key of an array; none, of what there isn't.
func (e *Engine) At(name, key string) api.Val {
	if !e.made() {
		return api.Val{}
	}
	return value.Plain(e.arrays[name].Get(key))
}
