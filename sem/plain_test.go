package sem

import (
	"fmt"
	"reflect"
	"regexp"
	"strings"
	"testing"

	"tedder/api"
	"tedder/engine"
	"tedder/sample"
	"tedder/syntax"
)

// act: what a job does but BEGIN and END: "set" puts a text at a scalar, "read" reads a file by a name; "assign" and "missing" are faults.
type act struct {
	what, name, text string
}

// records gives those of a text.
func records(s, rs string) []string {
	if rs == "" {
		s = strings.Trim(s, "\n")
		if s == "" {
			return nil
		}
		return regexp.MustCompile("\n\n+").Split(s, -1)
	}
	l := strings.Split(s, rs[:1])
	if l[len(l)-1] == "" {
		l = l[:len(l)-1]
	}
	return l
}

// do does an act, and tells what ended the run.
func do(e *engine.Engine, a act) string {
	switch a.what {
	case "set":
		e.Assign(a.name, a.text)
	case "read":
		e.File(a.name)
		for _, line := range records(a.text, e.Text("RS")) {
			if end := e.Record(line); end.Kind != "" {
				return end.Kind
			}
		}
	default:
		return a.what
	}
	return ""
}

// acted tells what a program comes to with acts ahead of BEGIN and behind it.
func acted(source string, lim api.Limits, ahead, behind []act) api.Result {
	items, _ := syntax.Parse(source)
	e, _ := engine.New(items, lim)
	for _, a := range ahead {
		if fault := do(e, a); fault != "" {
			return api.Result{Kind: fault, Status: 2}
		}
	}
	kinds := []string{e.Begin().Kind}
	for _, a := range behind {
		if kinds[len(kinds)-1] == "" {
			kinds = append(kinds, do(e, a))
		}
	}
	status := 0
	if last := kinds[len(kinds)-1]; last != "missing" && last != "assign" {
		end := e.End()
		kinds, status = append(kinds, end.Kind), end.Status
	}
	r := api.Result{Out: e.Out(), Files: e.Files(), Status: status}
	for _, kind := range kinds {
		switch kind {
		case "":
		case "exit":
			r.Kind = kind
		default:
			r.Kind, r.Status = kind, 2
		}
	}
	return r
}

// maker makes jobs out of what they shall do.
type maker struct {
	sample.Maker
	texts map[string]string // of each file that there is
}

// escaped gives something that stands for a text.
func (m *maker) escaped(text string) string {
	s := ""
	for i := range len(text) {
		if text[i] == '\\' || m.Pick("bare", "bare", "escaped") == "escaped" {
			s += fmt.Sprintf(`\%03o`, text[i])
		} else {
			s += text[i : i+1]
		}
	}
	return s
}

// assignment gives one, and its act. Of the programs here a and f are an array and a function.
func (m *maker) assignment() (string, act) {
	if m.Pick("good", "good", "good", "good", "good", "good", "good", "bad") == "bad" {
		return m.Pick("NF", "a", "b", "f", "h", "in", "exit", "split", "exp") + "=" + m.Pick("", "1", "a"), act{what: "assign"}
	}
	name := m.Pick("x", "y", "z", "new", "NR", "FNR", "FILENAME", "FS", "OFS", "ORS", "RS")
	text := m.Pick("", "1", "2.5", "a b", ",", ";\n", "[ab]", "\"\\", "=x", "\xff\x00", "x")
	return name + "=" + m.escaped(text), act{"set", name, text}
}

// operand gives one, with its acts.
func (m *maker) operand() (string, []act) {
	switch m.Pick("empty", "assignment", "assignment", "file", "file", "file") {
	case "empty":
		return "", nil
	case "file":
		name := m.Pick("f", "g", "1=h", "-", "f", "g", "1=h", "-", "none")
		if text, ok := m.texts[name]; ok {
			return name, []act{{"read", name, text}}
		}
		return name, []act{{what: "missing"}}
	}
	s, a := m.assignment()
	return s, []act{a}
}

// files gives some, of which the first of a name has the text that counts.
func (m *maker) files() []api.File {
	m.texts = map[string]string{}
	var l []api.File
	for range 6 {
		name := m.Pick("f", "g", "1=h", "-", "x=1", "")
		text := m.Pick("", "1 a b,c 10\n\n0x 2 ab\n", "a\n b+\n\n\n\nx;3", "\n\n5\n6\n")
		l = append(l, api.File{Name: name, Data: text})
		if _, known := m.texts[name]; !known {
			m.texts[name] = text
		}
	}
	return l
}

// job gives one of a made-up program, with the acts ahead of BEGIN and behind it.
func (m *maker) job() (j api.Job, ahead, behind []act) {
	j = api.Job{Source: m.Program(), Files: m.files(), Lim: api.Limits{Ticks: 30, Depth: 3, Length: 200}}
	if j.Sep = m.Pick("", "", "", ",", "[b ]", "(", `\b`); j.Sep != "" {
		ahead = append(ahead, act{"set", "FS", j.Sep})
	}
	for m.Pick("more", "less", "less") == "more" {
		s, a := m.assignment()
		j.Vars, ahead = append(j.Vars, s), append(ahead, a)
	}
	named := false
	for m.Pick("more", "more", "less") == "more" {
		s, acts := m.operand()
		j.Args, behind = append(j.Args, s), append(behind, acts...)
		named = named || len(acts) > 0 && acts[0].what == "read"
	}
	if text, ok := m.texts["-"]; ok && !named {
		behind = append(behind, act{"read", "", text})
	}
	return j, ahead, behind
}

// P16.1, P0.1: jobs that are made out of what they shall do come to that.
func TestMadeJobs(t *testing.T) {
	m := maker{Maker: sample.Maker{Bits: sample.Bits(4000000)}}
	kinds, jobs := map[string]int{}, 0
	for len(m.Bits) > 20000 {
		j, ahead, behind := m.job()
		got, want := Run(j), acted(j.Source, j.Lim, ahead, behind)
		if len(got.Files)+len(want.Files) == 0 {
			got.Files, want.Files = nil, nil
		}
		if !reflect.DeepEqual(got, want) {
			t.Fatalf("%s\nsep %q, vars %q, args %q, files %q\n%#v\nnot\n%#v", j.Source, j.Sep, j.Vars, j.Args, j.Files, got, want)
		}
		kinds[want.Kind]++
		jobs++
	}
	t.Log(jobs, kinds)
	for _, kind := range []string{"", "exit", "assign", "missing", "div", "pow", "tick", "depth", "length", "format", "conv", "ere", "field", "file"} {
		if kinds[kind] < jobs/1000 {
			t.Errorf("of %d jobs %d come to %q", jobs, kinds[kind], kind)
		}
	}
}
