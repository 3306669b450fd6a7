package sample

import (
	"slices"
	"testing"

	"tedder/names"
	"tedder/syntax"
)

func TestTexts(t *testing.T) {
	if got := Texts("ab", 2); !slices.Equal(got, []string{"", "a", "b", "aa", "ab", "ba", "bb"}) {
		t.Errorf("%q", got)
	}
	if got := Texts("", 3); !slices.Equal(got, []string{""}) {
		t.Errorf("%q", got)
	}
	if got := Texts("\xff", 1); !slices.Equal(got, []string{"", "\xff"}) {
		t.Errorf("%q", got)
	}
}

func TestAllBytes(t *testing.T) {
	s := AllBytes()
	if len(s) != 256 {
		t.Fatal(len(s))
	}
	for i := range len(s) {
		if int(s[i]) != i {
			t.Errorf("byte %d is %d", i, s[i])
		}
	}
}

func TestBits(t *testing.T) {
	l := Bits(1000)
	if !slices.Equal(l, Bits(1000)) {
		t.Error("two rows")
	}
	slices.Sort(l)
	if len(slices.Compact(l)) != 1000 {
		t.Error("one number stands there twice")
	}
}

func TestPrograms(t *testing.T) {
	one, other := Maker{Bits: Bits(400000)}, Maker{Bits: Bits(400000)}
	seen := map[string]bool{}
	for len(one.Bits) > 20000 {
		s := one.Program()
		if s != other.Program() {
			t.Fatal("two rows")
		}
		seen[s] = true
		items, ok := syntax.Parse(s)
		if _, right := names.Resolve(items); !ok || !right {
			t.Errorf("%q is no program", s)
		}
	}
	if len(seen) < 100 {
		t.Errorf("%d programs", len(seen))
	}
}
