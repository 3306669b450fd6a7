package sem

import (
	"tedder/api"
	"tedder/engine"
	"tedder/input"
)

// reader hands records of files to a run. Its calls tell what ended the run: exit, or a fault; empty, if it goes on.
type reader struct {
	run    *engine.Engine
	files  []api.File
	places map[string]int // of each name the place of the first file that has it
}

// newReader gives one of these files.
func newReader(e *engine.Engine, files []api.File) *reader {
	places := map[string]int{}
	for i, f := range files {
		if _, known := places[f.Name]; !known {
			places[f.Name] = i
		}
	}
	return &reader{e, files, places}
}

// operands does what operands ask for, in their order.
func (r *reader) operands(args []string) string {
	named := false
	for _, s := range args {
		if s == "" {
			continue
		}
		name, text, ok := input.Operand(s)
		how := ""
		if ok {
			how = r.assign(name, text)
		} else {
			named = true
			how = r.named(s)
		}
		if how != "" {
			return how
		}
	}
	if named {
		return ""
	}
	return r.unnamed()
}

// assign does an assignment.
func (r *reader) assign(name, text string) string {
	if !r.run.Assign(name, text) {
		return "assign"
	}
	return ""
}

// named reads the file of a name.
func (r *reader) named(name string) string {
	place, ok := r.places[name]
	if !ok {
		return "missing"
	}
	return r.read(name, r.files[place].Data)
}

// unnamed reads the file that is read where no operand is a file's name, if there is one.
func (r *reader) unnamed() string {
	place, ok := r.places["-"]
	if !ok {
		return ""
	}
	return r.read("", r.files[place].Data)
}

// read does the records of a file, by the name that the run shall know it by.
func (r *reader) read(name, data string) string {
	r.run.File(name)
	for _, line := range input.Records(data, r.run.Text("RS")) {
		if end := r.run.Record(line); end.Kind != "" {
			return end.Kind
		}
	}
	return ""
}
