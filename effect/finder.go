package effect

import (
	"maps"
	"slices"
	"strings"

	"tedder/api"
)

// variable: what the rules do with one: the class of its updates (empty, if there are none), and whether it is asked.
type variable struct {
	class string
	asked bool
}

// finder: what is known of a program's rules.
type finder struct {
	variables map[string]variable
	refused   bool // whether something was found that no accepted program has
}

// newFinder gives one that knows of no rules.
func newFinder() *finder {
	return &finder{variables: map[string]variable{}}
}

// item learns from an item of the program.
func (f *finder) item(n api.Node) {
	switch n.Op {
	case "range":
		f.refused = true
	case "rule":
		for _, kid := range n.Kids {
			f.statement(kid)
		}
	}
}

// statement learns from a statement, or from an expression, in which no update stands.
func (f *finder) statement(n api.Node) {
	if u, asked := updateOf(n); u.Class != "" {
		f.update(u)
		f.ask(asked)
		return
	}
	switch n.Op {
	case "block", "if", "while", "do", "for":
		for _, kid := range n.Kids {
			f.statement(kid)
		}
	default:
		f.ask([]api.Node{n})
	}
}

// update learns of an update.
func (f *finder) update(u api.Update) {
	v := f.variables[u.Name]
	if v.class != "" && v.class != u.Class {
		f.refused = true
	}
	v.class = u.Class
	f.variables[u.Name] = v
}

// ask learns from nodes in which no update stands, and from all that is in them.
func (f *finder) ask(l []api.Node) {
	for _, n := range l {
		if barred(n) {
			f.refused = true
		}
		if n.Op == "var" {
			v := f.variables[n.Text]
			v.asked = true
			f.variables[n.Text] = v
		}
		f.ask(n.Kids)
	}
}

// anyUpdateAsked tells whether a variable is updated and asked: what is there then hangs on the records ahead.
func (f *finder) anyUpdateAsked() bool {
	for _, v := range f.variables {
		if v.class != "" && v.asked {
			return true
		}
	}
	return false
}

// updates gives the updates that were found.
func (f *finder) updates() []api.Update {
	var l []api.Update
	for _, name := range slices.Sorted(maps.Keys(f.variables)) {
		if class := f.variables[name].class; class != "" {
			l = append(l, api.Update{Name: strings.Clone(name), Class: class})
		}
	}
	return l
}

// barred tells whether a node may not stand in the rules of an accepted program where it is no update and no part of one.
func barred(n api.Node) bool {
	switch n.Op {
	case "call", "exit", "delete", "forin", "in", "elem":
		return true
	case "print", "printf":
		return n.Text != ""
	case "built":
		switch n.Text {
		case "split", "match":
			return true
		case "sub", "gsub":
			return len(n.Kids) > 2 && n.Kids[2].Op != "field"
		}
	case "assign", "pre", "post":
		return !ofRecord(kid(n, 0))
	}
	return false
}

// ofRecord tells whether a place is part of the record, so that no other record sees what is put there.
func ofRecord(place api.Node) bool {
	return place.Op == "field" || place.Op == "var" && place.Text == "NF"
}
