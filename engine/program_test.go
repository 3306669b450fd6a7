package engine

import (
	"maps"
	"math"
	"slices"
	"testing"

	"tedder/api"
	"tedder/names"
	"tedder/sample"
	"tedder/syntax"
	"tedder/value"
)

// same tells whether two Vals are alike; what is no number is like itself.
func same(a, b api.Val) bool {
	if math.IsNaN(a.Num) && math.IsNaN(b.Num) {
		a.Num, b.Num = 0, 0
	}
	return a == b && math.Signbit(a.Num) == math.Signbit(b.Num)
}

// checkLike holds a run against a plain one, of which the same was asked.
func checkLike(t *testing.T, s string, e *Engine, w *plain) {
	t.Helper()
	if e.Out() != w.out || !slices.Equal(e.Files(), w.files) {
		t.Fatalf("%s\n%q, %q, not %q, %q", s, e.Out(), e.Files(), w.out, w.files)
	}
	for name, v := range w.globals.scalars {
		if want := value.Plain(v); name != "NF" && !same(e.Get(name), want) {
			t.Fatalf("%s\n%s is %v, not %v", s, name, e.Get(name), want)
		}
	}
	if got := e.Get("NF"); !same(got, api.Val{Kind: "num", Num: float64(len(w.fields))}) {
		t.Fatalf("%s\nNF is %v, not %d", s, got, len(w.fields))
	}
	for name, array := range w.globals.arrays {
		keys := slices.Sorted(maps.Keys(array))
		if !slices.Equal(e.Keys(name), keys) {
			t.Fatalf("%s\nkeys of %s are %q, not %q", s, name, e.Keys(name), keys)
		}
		for _, key := range keys {
			if want := value.Plain(array[key]); !same(e.At(name, key), want) {
				t.Fatalf("%s\n%s at %q is %v, not %v", s, name, key, e.At(name, key), want)
			}
		}
	}
}

// checkRun does a program with lines, as a run and as a plain one, and gives how it ended.
func checkRun(t *testing.T, s string, lim api.Limits, lines ...string) string {
	t.Helper()
	items, ok := syntax.Parse(s)
	e, made := New(items, lim)
	if _, right := names.Resolve(items); !ok || !right || !made {
		t.Fatalf("%s\nis no program", s)
	}
	w := newPlain(items, lim)
	last := api.End{}
	ended := func(got, want api.End) {
		if got != want {
			t.Fatalf("%s\n%v, not %v", s, got, want)
		}
		checkLike(t, s, e, w)
		last = got
	}
	ended(e.Begin(), w.begin())
	for _, line := range lines {
		ended(e.Record(line), w.record(line))
	}
	ended(e.End(), w.end())
	kind := last.Kind
	ended(e.End(), w.end())
	ended(e.Record("1 b"), w.record("1 b"))
	return kind
}

// P14.1: made-up programs do what the tree says, whatever limits there are, up to each end that there is.
func TestPrograms(t *testing.T) {
	m := sample.Maker{Bits: sample.Bits(6000000)}
	kinds, programs := map[string]int{}, 0
	lines := []string{"1 a b,c 10", "", "0x 2 ab", "  3\tb+ a\nx ", "a,1,[ab] 2.5"}
	for len(m.Bits) > 20000 {
		s := m.Program()
		for _, lim := range []api.Limits{{Ticks: 30, Depth: 3, Length: 200}, {Ticks: 8, Depth: 5, Length: 12}} {
			kinds[checkRun(t, s, lim, lines...)]++
			programs++
		}
	}
	t.Log(kinds)
	for _, kind := range []string{"", "exit", "div", "pow", "tick", "depth", "length", "format", "conv", "ere", "field", "file"} {
		if kinds[kind] < programs/1000 {
			t.Errorf("of %d programs %d end with %q", programs, kinds[kind], kind)
		}
	}
}
