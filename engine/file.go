package engine

import (
	"strings"

	"tedder/api"
)

// files are those that were written.
type files struct {
	list   []*file // in the order in which they were written first
	byName map[string]*file
}

// file is one of them.
type file struct {
	name string
	data strings.Builder
}

// write puts a text behind what a file has.
func (l *files) write(name, text string) {
	f := l.byName[name]
	if f == nil {
		if l.byName == nil {
			l.byName = map[string]*file{}
		}
		f = &file{name: strings.Clone(name)}
		l.list = append(l.list, f)
		l.byName[f.name] = f
	}
	f.data.WriteString(text)
}

// all gives them all.
func (l *files) all() []api.File {
	var all []api.File
	for _, f := range l.list {
		all = append(all, api.File{Name: f.name, Data: f.data.String()})
	}
	return all
}
