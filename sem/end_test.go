package sem

import (
	"reflect"
	"slices"
	"strconv"
	"strings"
	"sync"
	"testing"
	"unsafe"

	"tedder/api"
	"tedder/sample"
)

// greatest gives the greatest limits.
func greatest() api.Limits {
	return api.Limits{Ticks: 1000000, Depth: 1000000, Length: 1000000}
}

// checkGreat asks what a job comes to with the greatest limits.
func checkGreat(t *testing.T, j api.Job, want string) {
	t.Helper()
	j.Lim = greatest()
	checkJob(t, j, want)
}

// P0: long files, and many of them, are read, and soon.
func TestGreatFiles(t *testing.T) {
	const many = 1 << 18
	j := over("{ n += NF } END { print NR, FNR, n }", files("f", strings.Repeat("a b\n", many), "g", strings.Repeat("\n", many), "l", strings.Repeat("a ", many)))
	j.Args = []string{"f", "g", "f", "l"}
	checkGreat(t, j, "786433 1 1310720|")
	j.Args = []string{"RS=", "g", "f", "RS= ", "l"}
	checkGreat(t, j, "262145 262144 786432|")
	j.Source = "{ exit }"
	checkGreat(t, j, "!exit 0")
	j = over("{ n += $1 } END { print n, NR, FILENAME, x }", nil)
	for i := range 100000 {
		name := "f" + strconv.Itoa(i)
		j.Files = append(j.Files, api.File{Name: name, Data: "1"}, api.File{Name: name, Data: "2"})
		j.Args = append(j.Args, name, "x="+strconv.Itoa(i), "")
		j.Vars = append(j.Vars, "y"+strconv.Itoa(i)+"="+name)
	}
	slices.Reverse(j.Args)
	checkGreat(t, j, "100000 100000 f0 0|")
}

// P0: long programs, names and texts lead to an answer.
func TestGreatTexts(t *testing.T) {
	long := strings.Repeat("n", 1<<20)
	j := over("{ print length(x), length(FILENAME), length(FS), length }", files(long, long+"x", "1"+long+"=", "\n"))
	j.Sep, j.Vars, j.Args = long, []string{"x=" + long}, []string{long}
	// So long a text is no expression.
	checkGreat(t, j, "!ere 2")
	j.Sep = long[:1]
	checkGreat(t, j, "1048576 1048576 1 1048577|")
	j.Args = []string{"x=", "1" + long + "="}
	checkGreat(t, j, "0 1048578 1 0|")
	j.Args = []string{long + "="}
	checkGreat(t, j, "!assign 2")
	j.Vars = []string{long + "=1"}
	checkOnly(t, j, "assign", 2)
	j.Source = long
	checkOnly(t, j, "syntax", 2)
	for _, source := range []string{strings.Repeat("(", 20000), strings.Repeat("{", 20000), strings.Repeat("-", 20000) + "1", strings.Repeat("\x00", 1<<20), strings.Repeat("\n", 1<<20)} {
		checkOnly(t, over(source, nil), "syntax", 2)
	}
}

// P0: programs that go on and on end.
func TestEndless(t *testing.T) {
	l := files("-", "a\nb\n")
	for source, want := range map[string]string{
		"BEGIN { for (;;) i++ }":                               "!tick 2",
		"{ for (;;) i++ }":                                     "!tick 2",
		"END { print NR; do ; while (1) }":                     "2|!tick 2",
		"BEGIN { exit 1 } END { for (;;) i++ }":                "!tick 2",
		"function f() { return f() } { print; f() }":           "a|!tick 2",
		"BEGIN { x = \"a\"; for (;;) x = x x }":                "!length 2",
		"{ for (i = 0; i < 999999; i++) n++ } END { print n }": "1999998|",
	} {
		checkGreat(t, over(source, l), want)
	}
}

// P0: whatever a job holds, there is an answer of a kind that there is, with its status.
func TestAnyJobs(t *testing.T) {
	all, bits := sample.AllBytes(), sample.Bits(60000)
	next := func(n int) int {
		b := bits[0] >> 33 % uint64(n)
		bits = bits[1:]
		return int(b)
	}
	alphabets := []string{"x=1\\\n", "fg-= ", all, "{}()/a $1\n;", "xa[]=\"\\7"}
	text := func() string {
		alphabet, s := alphabets[next(len(alphabets))], ""
		for range next(12) {
			s += alphabet[next(len(alphabet)):][:1]
		}
		return s
	}
	texts := func() (l []string) {
		for range next(4) {
			l = append(l, text())
		}
		return l
	}
	limit := func() int { return []int{1, 5, 100, 1000000, 1, 5, 100, 1000000, 0, 1000001}[next(10)] }
	kinds := []string{"", "exit", "syntax", "assign", "missing", "div", "pow", "tick", "depth", "length", "format", "conv", "ere", "field", "file"}
	for len(bits) > 1000 {
		j := api.Job{Source: "{ a[x]; print; FS = x; RS = $1 } END { print NR, $2 }", Sep: text(), Vars: texts(), Args: texts(), Lim: api.Limits{Ticks: limit(), Depth: limit(), Length: limit()}}
		if next(3) == 0 {
			j.Source = text()
		}
		for _, name := range append(texts(), "-", "f") {
			j.Files = append(j.Files, api.File{Name: name, Data: text()})
		}
		r := Run(j)
		fault := r.Kind != "" && r.Kind != "exit"
		if !slices.Contains(kinds, r.Kind) || fault && r.Status != 2 || r.Kind == "" && r.Status != 0 || r.Kind == "syntax" && r.Out != "" {
			t.Errorf("%#v\n%#v", j, r)
		}
	}
}

// cloned gives a job that shares no memory with another one.
func cloned(j api.Job) api.Job {
	j.Source, j.Sep, j.Vars, j.Args, j.Files = strings.Clone(j.Source), strings.Clone(j.Sep), slices.Clone(j.Vars), slices.Clone(j.Args), slices.Clone(j.Files)
	for _, l := range [][]string{j.Vars, j.Args} {
		for i := range l {
			l[i] = strings.Clone(l[i])
		}
	}
	for i, f := range j.Files {
		j.Files[i] = api.File{Name: strings.Clone(f.Name), Data: strings.Clone(f.Data)}
	}
	return j
}

// rich gives a job of which all is printed and written.
func rich() api.Job {
	return api.Job{
		Source: "BEGIN { printf \"%s\", x } { printf \"%s\", $0; printf \"%s\", $0 > $1; printf \"%s\", FILENAME > x; printf \"%s\", y > \"literal\" } END { printf \"%s\", FS > FILENAME }",
		Sep:    "separator", Vars: []string{"x=variable"}, Args: []string{"y=assigned", "filename", "y=", "other"},
		Files: files("filename", "first line\nsecond line\n", "other", "third line"), Lim: usual(),
	}
}

// within tells whether the bytes of piece lie in the memory of s.
func within(piece, s string) bool {
	if piece == "" || s == "" {
		return false
	}
	at, from := uintptr(unsafe.Pointer(unsafe.StringData(piece))), uintptr(unsafe.Pointer(unsafe.StringData(s)))
	return at >= from && at < from+uintptr(len(s))
}

// R4: a job is neither changed nor kept: nothing that is answered shares memory with it.
func TestJobsNotKept(t *testing.T) {
	l := []api.Job{rich(), over("{ printf \"%s\", $0 }", files("-", "a line"))}
	l = append(l, over("END { printf \"%s\", x; printf \"%s\", x > x }", nil, "x=text"))
	for _, j := range l {
		j = cloned(j)
		before := cloned(j)
		r := Run(j)
		if !reflect.DeepEqual(j, before) {
			t.Errorf("%#v, not %#v", j, before)
		}
		given := append(append([]string{j.Source, j.Sep}, j.Vars...), j.Args...)
		for _, f := range j.Files {
			given = append(given, f.Name, f.Data)
		}
		answered := []string{r.Out, r.Kind}
		for _, f := range r.Files {
			answered = append(answered, f.Name, f.Data)
		}
		for _, s := range given {
			for _, piece := range answered {
				if within(piece, s) {
					t.Errorf("%q shares memory with %q", piece, s)
				}
			}
		}
	}
}

// R4: files that are answered are the caller's own.
func TestOwnFiles(t *testing.T) {
	r, other, want := Run(rich()), Run(rich()), Run(rich())
	l := r.Files[:cap(r.Files)]
	for i := range l {
		l[i] = api.File{Name: "spoilt"}
	}
	if len(want.Files) != 6 || !reflect.DeepEqual(other, want) || !reflect.DeepEqual(Run(rich()), want) {
		t.Errorf("%#v, not %#v", other, want)
	}
}

// R7: a job comes to the same again, also where several are done at once, by one who shares its lists.
func TestSameJobs(t *testing.T) {
	m := maker{Maker: sample.Maker{Bits: sample.Bits(200000)}}
	jobs := []api.Job{rich()}
	for len(m.Bits) > 20000 {
		j, _, _ := m.job()
		jobs = append(jobs, j)
	}
	for _, j := range jobs {
		want := Run(j)
		var all sync.WaitGroup
		for range 4 {
			all.Go(func() {
				for range 2 {
					if got := Run(j); !reflect.DeepEqual(got, want) {
						t.Errorf("%s\n%#v, then %#v", j.Source, want, got)
					}
				}
			})
		}
		all.Wait()
	}
}
