package input

import (
	"slices"
	"strings"
	"sync"
	"testing"
	"unsafe"

	"tedder/api"
	"tedder/sample"
)

// checkMany asks for so many records of s, each of them as it is told.
func checkMany(t *testing.T, s, rs string, count int, record string) {
	t.Helper()
	l, spans := Records(s, rs), Spans(s, rs)
	if len(l) != count || len(spans) != count {
		t.Fatalf("%.20q by %q: %d records, %d spans, not %d", s, rs, len(l), len(spans), count)
	}
	for i := range l {
		if l[i] != record || s[spans[i][0]:spans[i][1]] != record {
			t.Fatalf("%.20q by %q: record %d is %.20q, not %.20q", s, rs, i, l[i], record)
		}
	}
}

// P0: long texts are parted, and soon, whatever stands in them.
func TestLongTexts(t *testing.T) {
	const long = 1 << 20
	repeat := func(s string) string { return strings.Repeat(s, long) }
	checkMany(t, repeat("\n"), "\n", long, "")
	checkMany(t, repeat("\n"), "", 0, "")
	checkMany(t, repeat("\n"), "x", 1, repeat("\n"))
	checkMany(t, repeat("a"), "", 1, repeat("a"))
	checkMany(t, repeat("a\n"), "", 1, repeat("a\n")[:2*long-1])
	checkMany(t, repeat("a\n"), "\n", long, "a")
	checkMany(t, repeat("a\n\n"), "", long, "a")
	checkMany(t, repeat("\na\n"), "", long, "a")
	checkMany(t, repeat("\n")+"a"+repeat("\n"), "", 1, "a")
	checkMany(t, "a"+repeat("\n")+"a", "", 2, "a")
	checkMany(t, "a;a", repeat(";"), 2, "a")
}

// P0: long operands answer, also those that are longer than a program may be.
func TestLongOperands(t *testing.T) {
	for _, size := range []int{api.MaxSource - 5, api.MaxSource, api.MaxSource + 5, 1 << 20} {
		repeat := func(s string) string { return strings.Repeat(s, size/len(s)+1)[:size] }
		name := repeat("n")
		checkOperand(t, name+"=", name, "")
		checkOperand(t, "x="+name, "x", name)
		checkOperand(t, name+"="+name+`\t`, name, name+"\t")
		checkNone(t, name, repeat("1")+"=", name+" =", repeat(" ")+"x=")
		checkOperand(t, repeat("x="), "x", repeat("x=")[2:])
		for part, want := range map[string]string{`"`: `"`, "\n": "\n", `\\`: `\`, `\"`: `"`, "\\\n": "\\\n", `\101`: "A", `\1`: "\x01", `\n`: "\n", `\q`: `\q`} {
			checkOperand(t, "x="+strings.Repeat(part, size), "x", strings.Repeat(want, size))
		}
		checkOperand(t, "x="+strings.Repeat(`\`, 2*size+1), "x", strings.Repeat(`\`, size+1))
	}
}

// P0: there is an answer whatever bytes the texts have, and nothing beside false.
func TestAnyBytes(t *testing.T) {
	const common = "\n\n\n;=\\\\x\"017 "
	var b []byte
	for _, bits := range sample.Bits(100000) {
		c := byte(bits >> 40)
		// Else hardly any run, name or escape would be one.
		if c < 160 {
			c = common[int(c)%len(common)]
		}
		b = append(b, c)
	}
	for i := 0; i+60 < len(b); i += 7 {
		s, rs := string(b[i:i+int(b[i])%40]), string(b[i+40:i+40+int(b[i+1])%3])
		checkPlain(t, s, rs)
		checkPlain(t, s, "")
		for _, operand := range []string{s, "x=" + s, s + "=" + s} {
			if name, text, ok := Operand(operand); !ok && (name != "" || text != "") || ok && (!strings.HasPrefix(operand, name+"=") || len(name)+1+len(text) > len(operand)) {
				t.Errorf("%q: %q, %q, %v", operand, name, text, ok)
			}
		}
	}
}

// within tells whether the bytes of piece lie in the memory of s.
func within(piece, s string) bool {
	if piece == "" || s == "" {
		return false
	}
	at, from := uintptr(unsafe.Pointer(unsafe.StringData(piece))), uintptr(unsafe.Pointer(unsafe.StringData(s)))
	return at >= from && at < from+uintptr(len(s))
}

// R4: no memory of what is handed in is answered.
func TestArgumentsNotKept(t *testing.T) {
	s := strings.Clone("\nab\ncd\n\ne;f\n")
	for _, rs := range []string{"", "\n", ";", "x"} {
		for _, record := range Records(s, rs) {
			if within(record, s) {
				t.Errorf("record %q by %q shares memory", record, rs)
			}
		}
	}
	for _, s := range []string{"name=text", "name=", `name=\\`, `name=\q\`, "name=\\\n"} {
		s = strings.Clone(s)
		if name, text, ok := Operand(s); !ok || within(name, s) || within(text, s) {
			t.Errorf("%q, %q share memory, %v", name, text, ok)
		}
	}
}

// R4: what is answered is the caller's own: no other answer changes with it.
func TestOwnAnswers(t *testing.T) {
	const s = "a\nb\n\nc;d\n"
	for _, rs := range []string{"", "\n", ";", "x"} {
		records, spans := Records(s, rs), Spans(s, rs)
		others, otherSpans := Records(s, rs), Spans(s, rs)
		wantRecords, wantSpans := slices.Clone(others), slices.Clone(otherSpans)
		records, spans = records[:cap(records)], spans[:cap(spans)]
		for i := range records {
			records[i] = "spoilt"
		}
		for i := range spans {
			spans[i] = [2]int{-1, -1}
		}
		checkPlain(t, s, rs)
		if !slices.Equal(others, wantRecords) || !slices.Equal(otherSpans, wantSpans) {
			t.Errorf("by %q: an answer changes with another", rs)
		}
	}
}

// R7: what is asked is answered the same again, also where several ask at once.
func TestSameAnswers(t *testing.T) {
	var all sync.WaitGroup
	for range 8 {
		all.Go(func() {
			for range 300 {
				for _, rs := range []string{"", "\n", ";", "x;"} {
					checkPlain(t, "a\nb\n\nc;dx\n\n\n", rs)
				}
				checkOperand(t, `x=\101\`, "x", `A\`)
				checkNone(t, "1x=2")
			}
		})
	}
	all.Wait()
}
