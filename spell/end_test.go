package spell

import (
	"math"
	"strings"
	"sync"
	"testing"
	"unsafe"

	"tedder/sample"
	"tedder/value"
)

// P0: Spell answers at long formats, and many and long arguments, soon.
func TestLongFormats(t *testing.T) {
	const long = 1 << 18
	repeat := func(s string) string { return strings.Repeat(s, long) }
	args := make([]value.Value, long)
	for i := range args {
		args[i] = num(float64(i % 10))
	}
	checkSpell(t, repeat("x"), nil, "", repeat("x"))
	checkSpell(t, repeat("%%"), nil, "", repeat("%"))
	checkSpell(t, repeat("%d"), args, "", repeat("0123456789")[:long])
	checkSpell(t, repeat("a%.0s"), args, "", repeat("a"))
	checkSpell(t, "%"+repeat("-+ 0#")+"4d|", numbers(7), "", "+7  |")
	checkSpell(t, "%"+repeat("0")+"4.1f", numbers(7), "", "07.0")
	checkSpell(t, "%."+repeat("0")+"4d", numbers(7), "", "0007")
	checkSpell(t, "%s", list(str(repeat("ab"))), "", repeat("ab"))
	checkSpell(t, "%.3s", list(str(repeat("ab"))), "", "aba")
	checkSpell(t, "%c", list(str(repeat("ab"))), "", "a")
	checkNone(t, "%"+repeat("9")+"d", numbers(7), "", math.MaxInt)
	checkNone(t, "%."+repeat("9")+"d", numbers(7), "", math.MaxInt)
	checkNone(t, "%"+repeat("-"), numbers(7), "", math.MaxInt)
	checkNone(t, repeat("%d")+"%d", args, "", math.MaxInt)
	checkNone(t, repeat("%"), args, "", long/2-1)
}

// P0: no text is made that is far longer than what may be answered.
func TestTooLongSoon(t *testing.T) {
	const long = 1 << 18
	args := make([]value.Value, long)
	s := strings.Repeat("a", long)
	for i := range args {
		args[i] = str(s)
	}
	for _, most := range []int{-1, 0, 1, 100, long} {
		checkNone(t, strings.Repeat("%s", long), args, "", most)
		checkNone(t, strings.Repeat("%200s", long), args, "", most)
		checkNone(t, strings.Repeat("%-5s", long), args, "", most)
	}
}

// P0: there is an answer whatever bytes the format has, and nothing beside false.
func TestAnyBytes(t *testing.T) {
	const common = "%%%-+ 0#.*5129dioxXueEfFgGcs\xff\x00z"
	var b []byte
	for _, bits := range sample.Bits(60000) {
		c := byte(bits >> 40)
		// Else hardly any conversion would be one.
		if c < 160 {
			c = common[int(c)%len(common)]
		}
		b = append(b, c)
	}
	values := manyValues()
	for i := 0; i+60 < len(b); i += 7 {
		args := values[int(b[i])%len(values):]
		checkPlain(t, string(b[i:i+int(b[i+1])%30]), args, string(b[i+30:i+35]), int(b[i+2]))
	}
}

// within tells whether the bytes of piece lie in the memory of s.
func within(piece, s string) bool {
	if piece == "" || s == "" {
		return false
	}
	at, from := uintptr(unsafe.Pointer(unsafe.StringData(piece))), uintptr(unsafe.Pointer(unsafe.StringData(s)))
	return at >= from && at < from+uintptr(len(s))
}

// R4: no memory of what is handed in is answered, and it stays as it was.
func TestOwnAnswers(t *testing.T) {
	plain, text := strings.Clone("plain"), strings.Clone("hello")
	args := list(str(text), num(3), nil)
	for _, format := range []string{"%s", "%.2s", "%5s", "%c", "%-1s", "%.9s"} {
		if got, ok := Spell(format, args, "", 100); !ok || within(got, text) || within(got, format) {
			t.Errorf("%q shares memory", format)
		}
	}
	if got, ok := Spell(plain, args, "", 100); !ok || within(got, plain) {
		t.Error("a format shares memory")
	}
	Spell("%s%d%*s%s", args, "", 100)
	if len(args) != 3 || value.Plain(args[0]).Str != "hello" || value.Plain(args[1]).Num != 3 || args[2] != nil {
		t.Error("the arguments changed")
	}
}

// R7: what is asked is answered the same again, also where several ask at once.
func TestSameAnswers(t *testing.T) {
	values := manyValues()
	var all sync.WaitGroup
	for range 8 {
		all.Go(func() {
			for range 20 {
				for i := range len(values) - 4 {
					checkPlain(t, "%s|%-5d|%*c", values[i:], "%.3g", 60)
					checkPlain(t, "%g%08.3f", values[i:], "", 60)
				}
			}
		})
	}
	all.Wait()
}
