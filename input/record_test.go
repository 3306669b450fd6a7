package input

import (
	"slices"
	"strings"
	"testing"

	"tedder/sample"
)

// checkRecords asks for these records of s by rs, and for spans at which they stand.
func checkRecords(t *testing.T, s, rs string, want ...string) {
	t.Helper()
	if got := Records(s, rs); !slices.Equal(got, want) {
		t.Errorf("%.60q by %.20q: %.300q, not %.300q", s, rs, got, want)
		return
	}
	spans := Spans(s, rs)
	if len(spans) != len(want) {
		t.Errorf("%.60q by %.20q: %d spans, not %d", s, rs, len(spans), len(want))
		return
	}
	for i, span := range spans {
		if s[span[0]:span[1]] != want[i] {
			t.Errorf("%.60q by %.20q: span %d is %v", s, rs, i, span)
			return
		}
	}
}

// checkSpans asks for these spans, each two numbers.
func checkSpans(t *testing.T, s, rs string, places ...int) {
	t.Helper()
	var want [][2]int
	for i := 0; i < len(places); i += 2 {
		want = append(want, [2]int{places[i], places[i+1]})
	}
	if got := Spans(s, rs); !slices.Equal(got, want) {
		t.Errorf("%q by %q: %v, not %v", s, rs, got, want)
	}
}

// P15.1: a byte parts records; behind the last such byte there is one only if something stands there.
func TestRecordsByByte(t *testing.T) {
	checkRecords(t, "a\nb\n", "\n", "a", "b")
	checkRecords(t, "a\nb", "\n", "a", "b")
	checkRecords(t, "a\n\nb", "\n", "a", "", "b")
	checkRecords(t, "a", "\n", "a")
	checkRecords(t, "a\n", "\n", "a")
	checkRecords(t, "", "\n")
	checkRecords(t, "\n", "\n", "")
	checkRecords(t, "\n\n", "\n", "", "")
	checkRecords(t, "\n\n\n", "\n", "", "", "")
	checkRecords(t, "\na", "\n", "", "a")
	checkRecords(t, "\n\na\n\n", "\n", "", "", "a", "")
	checkRecords(t, "a\r\nb \n c", "\n", "a\r", "b ", " c")
	checkRecords(t, "\x00\xff\nb;c", "\n", "\x00\xff", "b;c")
	checkRecords(t, "a;b\n;", ";", "a", "b\n")
	checkRecords(t, "a;b;\n", ";", "a", "b", "\n")
	checkRecords(t, ";", ";", "")
	checkRecords(t, "a b", " ", "a", "b")
	checkRecords(t, "a\tb", " ", "a\tb")
	checkRecords(t, "a.b|c", ".", "a", "b|c")
	checkRecords(t, "a\\b", "\\", "a", "b")
	checkRecords(t, "abc", "x", "abc")
	checkRecords(t, "abc", "b", "a", "c")
	checkRecords(t, "abab", "a", "", "b", "b")
}

// P15.1: of RS's text the first byte alone parts records.
func TestRecordsByFirstByte(t *testing.T) {
	checkRecords(t, "a;b", ";x", "a", "b")
	checkRecords(t, "a;b;xc", ";x", "a", "b", "xc")
	checkRecords(t, "a;xb", "x;", "a;", "b")
	checkRecords(t, "a\n\nb", "\n\n", "a", "", "b")
	checkRecords(t, "\n\na\n\n\nb\n", "\n\n", "", "", "a", "", "", "b")
	checkRecords(t, "a|b", "|+", "a", "b")
	checkRecords(t, "a+b", "[+]", "a+b")
	checkRecords(t, "a[b", "[+]", "a", "b")
	checkRecords(t, "a\u00e9b\u00e8c", "\u00e9", "a", "\xa9b", "\xa8c")
	checkRecords(t, "a\xc3b", "\u00e9", "a", "b")
	checkRecords(t, "a\xffb", "\xff\xfe", "a", "b")
	checkRecords(t, "\u20ac\xef\xbf\xbd\x80", "\x80", "\xe2\x82\xac\xef\xbf\xbd")
	checkRecords(t, "a\x00b", "\x00", "a", "b")
}

// P15.1: without RS's text runs of two or more bytes 10 part records, those at the ends play no part.
func TestRecordsByRuns(t *testing.T) {
	checkRecords(t, "", "")
	checkRecords(t, "\n", "")
	checkRecords(t, "\n\n", "")
	checkRecords(t, "\n\n\n\n\n", "")
	checkRecords(t, "a", "", "a")
	checkRecords(t, "a\n", "", "a")
	checkRecords(t, "a\n\n", "", "a")
	checkRecords(t, "a\n\n\n", "", "a")
	checkRecords(t, "\na", "", "a")
	checkRecords(t, "\n\na", "", "a")
	checkRecords(t, "\n\n\na", "", "a")
	checkRecords(t, "a\nb", "", "a\nb")
	checkRecords(t, "a\nb\nc\n", "", "a\nb\nc")
	checkRecords(t, "a\n\nb", "", "a", "b")
	checkRecords(t, "a\n\n\nb", "", "a", "b")
	checkRecords(t, "a\n\n\n\nb", "", "a", "b")
	checkRecords(t, "a\n\nb\nc\n\n\nd", "", "a", "b\nc", "d")
	checkRecords(t, "\n\na\nb\n\n\nc\n", "", "a\nb", "c")
	checkRecords(t, "\na\n \nb\n\n \n\n", "", "a\n \nb", " ")
	checkRecords(t, "a\r\n\r\nb", "", "a\r\n\r\nb")
	checkRecords(t, " \n\n\t\n\n\x00\xff", "", " ", "\t", "\x00\xff")
}

// P15.1: spans are places from 0 on.
func TestSpans(t *testing.T) {
	checkSpans(t, "", "\n")
	checkSpans(t, "", "")
	checkSpans(t, "\n\n", "")
	checkSpans(t, "a\na\n", "\n", 0, 1, 2, 3)
	checkSpans(t, "\n\n", "\n", 0, 0, 1, 1)
	checkSpans(t, "aa\n\naa\n", "\n", 0, 2, 3, 3, 4, 6)
	checkSpans(t, "aa", "\n", 0, 2)
	checkSpans(t, "\n\na\na\n\n\na\n", "", 2, 5, 8, 9)
	checkSpans(t, "\na", "", 1, 2)
	checkSpans(t, "x;xx;;x", ";x", 0, 1, 2, 4, 5, 5, 6, 7)
}

// plainSpans says the chapter's words again, byte by byte.
func plainSpans(s, rs string) [][2]int {
	var spans [][2]int
	if rs != "" {
		begin := 0
		for i := range len(s) {
			if s[i] == rs[0] {
				spans = append(spans, [2]int{begin, i})
				begin = i + 1
			}
		}
		if begin < len(s) {
			spans = append(spans, [2]int{begin, len(s)})
		}
		return spans
	}
	newline := func(i int) bool { return i < 0 || i >= len(s) || s[i] == '\n' }
	// A byte 10 that another one, or an end of the text, stands beside parts or plays no part.
	inside := func(i int) bool {
		return !newline(i) || i >= 0 && i < len(s) && !newline(i-1) && !newline(i+1)
	}
	for i := range len(s) {
		if inside(i) && !inside(i-1) {
			spans = append(spans, [2]int{i, i})
		}
		if inside(i) {
			spans[len(spans)-1][1] = i + 1
		}
	}
	return spans
}

// checkPlain asks for the spans and the records that the chapter's words tell.
func checkPlain(t *testing.T, s, rs string) {
	t.Helper()
	spans, records := Spans(s, rs), Records(s, rs)
	want := plainSpans(s, rs)
	if !slices.Equal(spans, want) || len(records) != len(want) {
		t.Errorf("%q by %q: %v and %d records, not %v", s, rs, spans, len(records), want)
		return
	}
	for i, span := range want {
		if records[i] != s[span[0]:span[1]] {
			t.Errorf("%q by %q: record %d is %q", s, rs, i, records[i])
		}
	}
}

// P15.1: the spans of all small texts are what the chapter's words tell.
func TestSmallTexts(t *testing.T) {
	for _, s := range sample.Texts("\na;", 8) {
		for _, rs := range []string{"", "\n", ";", "a", "x", "\n\n", ";a"} {
			checkPlain(t, s, rs)
		}
	}
}

// P15.1: the records by each byte are what the chapter's words, and the library's own parting, tell.
func TestRecordsByEachByte(t *testing.T) {
	all := sample.AllBytes()
	for c := range 256 {
		rs := all[c : c+1]
		for _, s := range []string{all, all + all, all[c:], all[:c+1], rs + all + rs} {
			checkPlain(t, s, rs)
			checkPlain(t, s, rs+all)
			if records := Records(s, rs); !strings.HasSuffix(s, rs) && strings.Join(records, rs) != s || strings.HasSuffix(s, rs) && strings.Join(records, rs)+rs != s {
				t.Errorf("by %q: %q", rs, records)
			}
		}
	}
}
