package field

import (
	"slices"
	"strings"
	"sync"
	"testing"
	"unsafe"

	"tedder/sample"
)

// checkMany asks for so many fields of s, each of them as it is told.
func checkMany(t *testing.T, s, sep string, lines bool, count int, field string) {
	t.Helper()
	l, ok := Split(s, sep, lines)
	if !ok || len(l) != count {
		t.Fatalf("%.20q by %q, %v: %d fields, %v, not %d", s, sep, lines, len(l), ok, count)
	}
	for i := range l {
		if l[i] != field {
			t.Fatalf("%.20q by %q, %v: field %d is %.20q, not %.20q", s, sep, lines, i, l[i], field)
		}
	}
}

// P0: long texts are parted, and soon, whatever stands in them.
func TestLongTexts(t *testing.T) {
	const long = 1 << 18
	repeat := func(s string) string { return strings.Repeat(s, long) }
	for _, lines := range []bool{false, true} {
		checkMany(t, repeat("a"), "", lines, long, "a")
		checkMany(t, repeat("a"), " ", lines, 1, repeat("a"))
		checkMany(t, repeat("a "), " ", lines, long, "a")
		checkMany(t, repeat(" "), " ", lines, 0, "")
		checkMany(t, repeat(":"), ":", lines, long+1, "")
		checkMany(t, repeat("a"), "b+", lines, 1, repeat("a"))
		checkMany(t, repeat("a"), "b*", lines, 1, repeat("a"))
		checkMany(t, repeat("a"), "()", lines, 1, repeat("a"))
		checkMany(t, repeat("a"), "^$", lines, 1, repeat("a"))
		checkMany(t, repeat("a"), "a*", lines, 2, "")
		checkMany(t, repeat("a"), "a|aa", lines, long/2+1, "")
		checkMany(t, repeat("ba")+"b", "(a|x)*", lines, long+1, "b")
		checkMany(t, repeat("b, ")+"b", ", *", lines, long+1, "b")
	}
	checkMany(t, repeat("\n"), ":", true, long+1, "")
	checkMany(t, repeat("\n"), "ab", true, long+1, "")
	checkMany(t, repeat("\n"), "ab", false, 1, repeat("\n"))
	checkMany(t, repeat("ab"), "ab", true, long+1, "")
	checkMany(t, repeat("b\n")+"b", "a.*", true, long+1, "b")
	if l, ok := Split(repeat("b\n")+"b", "b$|x", false); !ok || !slices.Equal(l, []string{repeat("b\n"), ""}) {
		t.Errorf("%d fields by the end alone", len(l))
	}
}

// P0: records of long lines, fields and separators answer.
func TestGreatRecords(t *testing.T) {
	long := strings.Repeat("\xffk", 1<<19)
	r := made(t, long+" "+long, " ")
	checkRecord(t, r, long+" "+long, long, long)
	set(t, r, 1, "", long)
	checkRecord(t, r, long+long, "", long)
	setNF(t, r, 4, long)
	checkRecord(t, r, strings.Repeat(long, 4), "", long, "", "")

	const count = 200000
	r = many(t, count)
	set(t, r, count, "y", "")
	setNF(t, r, count-1, "")
	if r.NF() != count-1 || r.Line() != strings.Repeat("x", count-1) {
		t.Errorf("%d fields", r.NF())
	}
}

// P0: whatever bytes text and separator have, there is an answer, and nothing beside false.
func TestAnyBytes(t *testing.T) {
	var b []byte
	for _, bits := range sample.Bits(60000) {
		b = append(b, byte(bits>>40))
	}
	for i := 0; i+60 < len(b); i += 9 {
		s, sep := string(b[i:i+int(b[i])%40]), string(b[i+40:i+40+int(b[i+1])%8])
		for _, lines := range []bool{false, true} {
			l, ok := Split(s, sep, lines)
			r, made := New(s, sep, lines)
			if made != ok || (r != nil) != ok || !ok && l != nil || r.NF() != len(l) {
				t.Errorf("%q by %q, %v: %q, %v, %v", s, sep, lines, l, ok, made)
			}
			if ok {
				checkRecord(t, r, s, l...)
			}
		}
	}
}

// within tells whether the bytes of piece lie in the memory of s.
func within(piece, s string) bool {
	if piece == "" || s == "" {
		return false
	}
	at, from := uintptr(unsafe.Pointer(unsafe.StringData(piece))), uintptr(unsafe.Pointer(unsafe.StringData(s)))
	return at >= from && at < from+uintptr(len(s))
}

// R4: no memory of what is handed in is kept, or answered.
func TestArgumentsNotKept(t *testing.T) {
	s, ofs := strings.Clone("ab:cd e:f"), strings.Clone("::")
	for _, sep := range []string{"", " ", ":", ":+", "x", "xy"} {
		l, _ := Split(s, sep, false)
		r := made(t, s, sep)
		l = append(l, r.Line())
		for i := range r.NF() + 1 {
			got, _ := r.Get(i)
			l = append(l, got)
		}
		for _, piece := range l {
			if within(piece, s) {
				t.Errorf("%q by %q shares memory", piece, sep)
			}
		}
	}
	for _, i := range []int{1, 2, 3} {
		r := made(t, "", " ")
		set(t, r, i, s, ofs)
		for k := range i + 1 {
			if got, _ := r.Get(k); within(got, s) || within(got, ofs) {
				t.Errorf("field %d shares memory", k)
			}
		}
		setNF(t, r, 2, ofs)
		if within(r.Line(), s) || within(r.Line(), ofs) {
			t.Error("the line shares memory")
		}
	}
}

// R4: what is answered is the caller's own: no other answer, and no record, changes with it.
func TestOwnAnswers(t *testing.T) {
	for _, sep := range []string{"", " ", ":", "::", ":*"} {
		s := "a:b c::d e:"
		first, _ := Split(s, sep, false)
		second, _ := Split(s, sep, false)
		r := made(t, s, sep)
		want := slices.Clone(second)
		room := first[:cap(first)]
		for i := range room {
			room[i] = "spoilt"
		}
		if !slices.Equal(second, want) {
			t.Errorf("by %q: %q", sep, second)
		}
		checkRecord(t, r, s, want...)
	}
}

// R4: no record changes with another one, nor what it answered with it.
func TestOwnRecords(t *testing.T) {
	one, other := made(t, "a b c", " "), made(t, "a b c", " ")
	line := one.Line()
	second, _ := one.Get(2)
	set(t, one, 2, "x", ":")
	setNF(t, one, 2, "-")
	checkRecord(t, one, "a-x", "a", "x")
	checkRecord(t, other, "a b c", "a", "b", "c")
	if line != "a b c" || second != "b" {
		t.Errorf("%q, %q", line, second)
	}
}

// R7: what is asked is answered the same again, also where several ask at once.
func TestSameAnswers(t *testing.T) {
	s := "a: b::c\n :d"
	r := made(t, s, ":")
	var all sync.WaitGroup
	for range 8 {
		all.Go(func() {
			for range 300 {
				for _, sep := range []string{"", " ", ":", ": *", ":*"} {
					checkPlain(t, s, sep)
				}
				checkRecord(t, r, s, "a", " b", "", "c\n ", "d")
			}
		})
	}
	all.Wait()
}
