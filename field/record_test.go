package field

import (
	"strings"
	"testing"

	"tedder/api"
	"tedder/sample"
)

const least, most = -1 << 63, 1<<63 - 1

// made gives a record of a line by a right separator.
func made(t *testing.T, line, sep string) *Record {
	t.Helper()
	r, ok := New(line, sep, false)
	if !ok || r == nil {
		t.Fatalf("no record of %.60q by %.60q", line, sep)
	}
	return r
}

// many gives a record of so many fields x, by blanks.
func many(t *testing.T, count int) *Record {
	t.Helper()
	return made(t, strings.Repeat("x ", count), " ")
}

// set asks that Set takes i, s and ofs.
func set(t *testing.T, r *Record, i int, s, ofs string) {
	t.Helper()
	if !r.Set(i, s, ofs) {
		t.Errorf("field %d isn't set", i)
	}
}

// setNF asks that SetNF takes n and ofs.
func setNF(t *testing.T, r *Record, n int, ofs string) {
	t.Helper()
	if !r.SetNF(n, ofs) {
		t.Errorf("%d fields aren't made", n)
	}
}

// P10.1: the line stays as it was till a field or NF is set.
func TestLine(t *testing.T) {
	for _, line := range []string{"", " ", " a  b ", "a\t\tb\n", "\x00\xff"} {
		r := made(t, line, " ")
		for range 2 {
			if got, ok := r.Get(0); r.Line() != line || got != line || !ok {
				t.Errorf("%q, %q, %v, not %q", r.Line(), got, ok, line)
			}
		}
	}
}

// P10.1: Get: the line, the fields, nothing above them up to MaxFields, and false of all others.
func TestGet(t *testing.T) {
	for _, r := range []*Record{made(t, "", " "), made(t, "a b", " "), {}, many(t, 999), many(t, 1000)} {
		for i := r.NF() + 1; i <= api.MaxFields; i++ {
			checkGet(t, r, i, "")
		}
		for _, i := range []int{-1, -2, -1000, least, api.MaxFields + 1, api.MaxFields + 2, 1 << 32, 1<<32 + 1, most} {
			if s, ok := r.Get(i); ok || s != "" {
				t.Errorf("field %d of %d is %q, %v", i, r.NF(), s, ok)
			}
		}
	}
	r := made(t, strings.Repeat("x ", 1199)+"last", " ")
	checkGet(t, r, 1000, "x")
	checkGet(t, r, 1001, "x")
	checkGet(t, r, 1200, "last")
	for _, i := range []int{1201, 1202, most, -1} {
		if s, ok := r.Get(i); ok || s != "" {
			t.Errorf("field %d is %q, %v", i, s, ok)
		}
	}
}

// P10.1: Set: the field, empty ones ahead of it that weren't there, and the line of all with ofs between.
func TestSet(t *testing.T) {
	r := made(t, " a  b c ", " ")
	set(t, r, 2, "B", ":")
	checkRecord(t, r, "a:B:c", "a", "B", "c")
	set(t, r, 5, "e", "-")
	checkRecord(t, r, "a-B-c--e", "a", "B", "c", "", "e")
	set(t, r, 1, "", "")
	checkRecord(t, r, "Bce", "", "B", "c", "", "e")
	set(t, r, 5, "x y", ", ")
	checkRecord(t, r, ", B, c, , x y", "", "B", "c", "", "x y")
	set(t, r, 6, "", "\n\xff")
	checkRecord(t, r, "\n\xffB\n\xffc\n\xff\n\xffx y\n\xff", "", "B", "c", "", "x y", "")

	// Neither the separator nor what a field has makes more fields of it.
	r = made(t, "a:b", ":")
	set(t, r, 1, "x:y:z", ":")
	checkRecord(t, r, "x:y:z:b", "x:y:z", "b")

	r = made(t, "", " ")
	set(t, r, 1, "", ":")
	checkRecord(t, r, "", "")
	set(t, r, 3, "c", ":")
	checkRecord(t, r, "::c", "", "", "c")

	// What is set as it was makes the line anew, too.
	r = made(t, " a  b ", " ")
	set(t, r, 1, "a", " ")
	checkRecord(t, r, "a b", "a", "b")
}

// P10.1: Set takes up to MaxFields, and up to NF where that is more.
func TestSetBounds(t *testing.T) {
	r := made(t, "a", " ")
	set(t, r, 1000, "z", "")
	if r.Line() != "az" || r.NF() != 1000 {
		t.Errorf("%q, %d", r.Line(), r.NF())
	}
	checkGet(t, r, 999, "")
	checkGet(t, r, 1000, "z")
	set(t, r, 1000, "y", "")
	checkRefused(t, r, 1001)

	r = many(t, 1200)
	set(t, r, 1001, "m", "")
	set(t, r, 1200, "z", "")
	if r.Line() != strings.Repeat("x", 1000)+"m"+strings.Repeat("x", 198)+"z" || r.NF() != 1200 {
		t.Errorf("%q, %d", r.Line(), r.NF())
	}
	checkRefused(t, r, 1201)
}

// checkRefused asks that none of the integers that are wrong everywhere, nor above, is taken, and that they change nothing.
func checkRefused(t *testing.T, r *Record, above int) {
	t.Helper()
	line, count := r.Line(), r.NF()
	var fields []string
	for i := range count {
		s, _ := r.Get(i + 1)
		fields = append(fields, s)
	}
	for _, i := range []int{-1, -2, least, -1 << 32, above, above + 1, 2 * above, 1 << 32, most} {
		if r.Set(i, "new", "-") || r.SetNF(i, "-") {
			t.Errorf("%d is taken", i)
		}
		checkRecord(t, r, line, fields...)
	}
	if r.Set(0, "new", "-") {
		t.Error("field 0 is set")
	}
	checkRecord(t, r, line, fields...)
}

// P10.1, R3: Set and SetNF are false of other numbers, and change nothing then.
func TestRefused(t *testing.T) {
	checkRefused(t, made(t, "", " "), 1001)
	checkRefused(t, made(t, " a  b ", " "), 1001)
	checkRefused(t, &Record{}, 1001)
	checkRefused(t, many(t, 1000), 1001)
	checkRefused(t, many(t, 1001), 1002)
	checkRefused(t, many(t, 3000), 3001)
}

// P10.1: SetNF: so many fields, new ones empty, and the line of all with ofs between.
func TestSetNF(t *testing.T) {
	r := made(t, " a  b c ", " ")
	setNF(t, r, 3, ":")
	checkRecord(t, r, "a:b:c", "a", "b", "c")
	setNF(t, r, 2, "-")
	checkRecord(t, r, "a-b", "a", "b")
	setNF(t, r, 5, "-")
	checkRecord(t, r, "a-b---", "a", "b", "", "", "")
	setNF(t, r, 1, "--")
	checkRecord(t, r, "a", "a")
	setNF(t, r, 0, "--")
	checkRecord(t, r, "")
	setNF(t, r, 1, "--")
	checkRecord(t, r, "", "")
	setNF(t, r, 3, ", ")
	checkRecord(t, r, ", , ", "", "", "")
	setNF(t, r, 2, "")
	checkRecord(t, r, "", "", "")
}

// P10.1: fields that were taken away are empty where they come back, whatever brings them.
func TestFieldsComeBackEmpty(t *testing.T) {
	r := made(t, "a b c d", " ")
	setNF(t, r, 1, " ")
	setNF(t, r, 4, ":")
	checkRecord(t, r, "a:::", "a", "", "", "")
	r = made(t, "a b c d", " ")
	setNF(t, r, 1, " ")
	checkGet(t, r, 2, "")
	set(t, r, 3, "C", ":")
	checkRecord(t, r, "a::C", "a", "", "C")
	setNF(t, r, 4, ":")
	checkRecord(t, r, "a::C:", "a", "", "C", "")
}

// P10.1: SetNF takes up to MaxFields, and up to NF where that is more; NF then is what counts.
func TestSetNFBounds(t *testing.T) {
	r := made(t, "a", " ")
	setNF(t, r, 1000, "-")
	if r.NF() != 1000 || r.Line() != "a"+strings.Repeat("-", 999) {
		t.Errorf("%d fields", r.NF())
	}
	checkRefused(t, r, 1001)

	r = many(t, 1200)
	setNF(t, r, 1200, "")
	checkRefused(t, r, 1201)
	setNF(t, r, 1100, "")
	if r.NF() != 1100 || r.Line() != strings.Repeat("x", 1100) {
		t.Errorf("%d fields, %q", r.NF(), r.Line())
	}
	checkRefused(t, r, 1101)
	setNF(t, r, 3, "-")
	checkRecord(t, r, "x-x-x", "x", "x", "x")
	checkRefused(t, r, 1001)
}

// R2: of a nil record all is nothing, and nothing is taken.
func TestNilRecord(t *testing.T) {
	var r *Record
	for _, i := range []int{least, -1, 0, 1, 2, 1000, 1001, most} {
		if s, ok := r.Get(i); s != "" || ok {
			t.Errorf("field %d is %q, %v", i, s, ok)
		}
		if r.Set(i, "a", ":") || r.SetNF(i, ":") {
			t.Errorf("%d is taken", i)
		}
		if r.Line() != "" || r.NF() != 0 {
			t.Errorf("line %q, %d fields", r.Line(), r.NF())
		}
	}
}

// P0: a record that New didn't make is one of the empty line.
func TestZeroRecord(t *testing.T) {
	var r Record
	checkRecord(t, &r, "")
	setNF(t, &r, 0, ":")
	checkRecord(t, &r, "")
	set(t, &r, 2, "b", ":")
	checkRecord(t, &r, ":b", "", "b")
}

// P10.2: what was set is got, whatever it is, and no other field is another one.
func TestSetIsGot(t *testing.T) {
	texts := append(sample.Texts("a: \n", 3), sample.AllBytes(), "\u00e9", "\xff\xfe", strings.Repeat("long", 10000))
	for k, s := range texts {
		i := 1 + k%7
		r := made(t, "1:2:3:4", ":")
		set(t, r, i, s, ":")
		checkGet(t, r, i, s)
		for other := 1; other <= 7; other++ {
			switch {
			case other == i:
			case other <= 4:
				checkGet(t, r, other, string(rune('0'+other)))
			default:
				checkGet(t, r, other, "")
			}
		}
	}
}

// fieldsWithout gives some fields without the byte sep in them, and what is left of the bits that they are made of.
func fieldsWithout(sep string, bits []uint64) ([]string, []uint64) {
	texts := []string{"", "", "a", "bc", " ", "\t d", "\n", ".", "^[", "\\", "\xc3", "\xa9\x80", "12"}
	count := 1 + int(bits[0]>>40%6)
	var fields []string
	for _, b := range bits[1 : 1+count] {
		fields = append(fields, strings.ReplaceAll(texts[b>>20%uint64(len(texts))], sep, ""))
	}
	return fields, bits[1+count:]
}

// P10.2: a line that is made of fields by a byte that none of them has is parted into these fields again. (Not by a blank, which parts no empty ones, nor of one empty field, whose line is the empty text.)
func TestPartedAgain(t *testing.T) {
	bits := sample.Bits(30000)
	for c := range 256 {
		sep := string([]byte{byte(c)})
		for range 10 {
			var want []string
			want, bits = fieldsWithout(sep, bits)
			r := &Record{}
			for i, s := range want {
				set(t, r, i+1, s, sep)
			}
			checkRecord(t, r, strings.Join(want, sep), want...)
			if r.Line() != "" && sep != " " {
				checkSplit(t, r.Line(), sep, false, want...)
			}
			setNF(t, r, len(want)+2, sep)
			if sep != " " {
				checkSplit(t, r.Line(), sep, false, append(want, "", "")...)
			}
		}
	}
	r := &Record{}
	for i, s := range []string{"a", "b\r", "\xff", "\u00e9"} {
		set(t, r, i+1, s, " ")
	}
	checkBoth(t, r.Line(), " ", "a", "b\r", "\xff", "\u00e9")
}
