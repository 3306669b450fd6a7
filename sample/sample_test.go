package sample

import (
	"slices"
	"testing"
)

func TestTexts(t *testing.T) {
	if got := Texts("ab", 2); !slices.Equal(got, []string{"", "a", "b", "aa", "ab", "ba", "bb"}) {
		t.Errorf("%q", got)
	}
	if got := Texts("", 3); !slices.Equal(got, []string{""}) {
		t.Errorf("%q", got)
	}
	if got := Texts("\xff", 1); !slices.Equal(got, []string{"", "\xff"}) {
		t.Errorf("%q", got)
	}
}

func TestAllBytes(t *testing.T) {
	s := AllBytes()
	if len(s) != 256 {
		t.Fatal(len(s))
	}
	for i := range len(s) {
		if int(s[i]) != i {
			t.Errorf("byte %d is %d", i, s[i])
		}
	}
}

func TestBits(t *testing.T) {
	l := Bits(1000)
	if !slices.Equal(l, Bits(1000)) {
		t.Error("two rows")
	}
	slices.Sort(l)
	if len(slices.Compact(l)) != 1000 {
		t.Error("one number stands there twice")
	}
}
