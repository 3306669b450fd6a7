package code

import (
	"math"
	"testing"

	"tedder/api"
	"tedder/sample"
)

// allKinds gives the Kinds of parts, and one that there isn't.
func allKinds() []string {
	return []string{"BEGIN", "END", "func", "rule", "pattern", "from", "to", "other", ""}
}

// one gives the number of values that are left in parts of a kind.
func one(kind string) int {
	if kind == "pattern" || kind == "from" || kind == "to" {
		return 1
	}
	return 0
}

// op gives an op that goes on to the next one.
func op(pop, push int) api.Op { return api.Op{Pop: pop, Push: push, Jump: -1} }

// end gives an op behind which nothing is done.
func end(pop, push int) api.Op { return api.Op{Pop: pop, Push: push, Jump: -1, Last: true} }

// fork gives an op that goes on to the next one, or jumps.
func fork(pop, push, jump int) api.Op { return api.Op{Pop: pop, Push: push, Jump: jump} }

// leap gives an op that jumps.
func leap(pop, push, jump int) api.Op {
	return api.Op{Pop: pop, Push: push, Jump: jump, Last: true}
}

// checkSound asks Check of parts of these ops; sound are those in which so many values are left: 0, 1, or none below 0; of 2 all.
func checkSound(t *testing.T, left int, lists ...[]api.Op) {
	t.Helper()
	for _, ops := range lists {
		for _, kind := range allKinds() {
			if want := left == 2 || left == one(kind); Check([]api.Part{{Kind: kind, Ops: ops}}) != want {
				t.Errorf("%s of %d ops %v: not %v", kind, len(ops), ops[:min(len(ops), 9)], want)
			}
		}
	}
}

// P13.1: as many values are there as are taken, and as many are left as are to be.
func TestCounts(t *testing.T) {
	checkSound(t, 0, []api.Op{end(0, 0)}, []api.Op{op(0, 1), end(1, 0)}, []api.Op{op(0, 2), op(2, 1), op(1, 0), end(0, 0)}, []api.Op{op(0, 0), end(0, 0)},
		[]api.Op{op(0, 1000000), op(1, 0), op(999999, 0), end(0, 0)}, []api.Op{op(0, 1000000), op(0, 1000000), end(2000000, 0)})
	checkSound(t, 1, []api.Op{end(0, 1)}, []api.Op{op(0, 1), end(0, 0)}, []api.Op{op(0, 3), end(3, 1)}, []api.Op{op(0, 3), op(2, 0), end(0, 0)})
	checkSound(t, -1, []api.Op{end(0, 2)}, []api.Op{op(0, 2), end(0, 0)}, []api.Op{op(0, 3), end(1, 0)})
	for _, wrong := range []int{1, 2, 1000000, math.MaxInt, -1, -2, math.MinInt} {
		checkSound(t, -1, []api.Op{end(wrong, 0)}, []api.Op{op(wrong, 0), end(0, 0)}, []api.Op{op(wrong, 0), op(0, wrong), end(0, 0)}, []api.Op{op(wrong, wrong), end(0, 0)}, []api.Op{leap(wrong, wrong, 0)})
	}
	for _, wrong := range []int{-1, -2, math.MinInt, 1000001, math.MaxInt} {
		checkSound(t, -1, []api.Op{end(0, wrong)}, []api.Op{op(0, wrong), end(wrong, 0)}, []api.Op{op(0, 1), op(0, wrong), end(1+wrong, 0)}, []api.Op{fork(0, wrong, 1), end(0, 0)}, []api.Op{leap(0, wrong, 1), end(wrong, 0)})
	}
	checkSound(t, -1, []api.Op{op(0, 1), op(2, 1), end(0, 0)}, []api.Op{op(0, 1), op(2, 2), end(1, 0)})
}

// P13.1: there is an op, and one wherever the code goes on.
func TestWays(t *testing.T) {
	checkSound(t, -1, nil, []api.Op{}, []api.Op{op(0, 0)}, []api.Op{op(0, 1)}, []api.Op{op(0, 0), op(0, 0)}, []api.Op{fork(0, 0, 0)}, []api.Op{fork(0, 0, 1)}, []api.Op{leap(0, 0, 1)}, []api.Op{leap(0, 0, 2), end(0, 0)},
		[]api.Op{fork(0, 0, 2), end(0, 0)}, []api.Op{fork(0, 0, math.MaxInt), end(0, 0)}, []api.Op{leap(0, 0, math.MaxInt)}, []api.Op{leap(0, 0, 1), op(0, 0)}, []api.Op{fork(0, 0, 2), end(0, 0), op(0, 0)})
	checkSound(t, 0, []api.Op{leap(0, 0, 1), end(0, 0)}, []api.Op{leap(0, 0, 2), leap(0, 0, 3), leap(0, 0, 1), end(0, 0)}, []api.Op{fork(0, 0, 1), end(0, 0)}, []api.Op{fork(0, 0, 0), end(0, 0)},
		[]api.Op{{Jump: -2}, {Jump: math.MinInt, Last: true}}, []api.Op{op(0, 0), end(0, 0), end(0, 0)}, []api.Op{fork(0, 0, 2), end(0, 0), end(0, 0)})
	checkSound(t, 2, []api.Op{leap(0, 0, 0)}, []api.Op{fork(0, 0, 0), leap(0, 0, 0)}, []api.Op{op(0, 7), leap(3, 3, 1)})
}

// P13.1: on each way to an op as many values are there.
func TestMeetings(t *testing.T) {
	checkSound(t, 0, []api.Op{op(0, 1), fork(1, 0, 3), op(0, 0), end(0, 0)}, []api.Op{op(0, 1), fork(1, 0, 4), op(0, 1), leap(0, 0, 5), op(0, 1), end(1, 0)}, []api.Op{op(0, 1), fork(1, 0, 0), end(0, 0)})
	checkSound(t, -1, []api.Op{fork(0, 0, 2), op(0, 1), end(0, 0)}, []api.Op{fork(0, 0, 3), op(0, 1), leap(0, 0, 4), op(0, 0), end(0, 0)}, []api.Op{op(0, 1), fork(0, 0, 0), end(1, 0)}, []api.Op{fork(0, 1, 0), end(1, 0)},
		[]api.Op{leap(0, 1, 0)}, []api.Op{op(0, 1), leap(1, 0, 1)}, []api.Op{op(0, 2), fork(1, 0, 1), end(1, 0)}, []api.Op{fork(0, 0, 2), end(0, 0), end(0, 1)}, []api.Op{fork(0, 0, 2), end(0, 1), end(0, 0)})
}

// P13.1: ops that can't be come to play no part.
func TestAside(t *testing.T) {
	for _, aside := range []api.Op{op(0, 0), op(5, 0), op(-1, 0), op(0, -1), op(0, 1000001), fork(0, 0, 9), leap(0, 0, 9), leap(0, 1, 0), end(0, 5), fork(0, 3, 0)} {
		checkSound(t, 0, []api.Op{end(0, 0), aside}, []api.Op{leap(0, 0, 2), aside, end(0, 0)}, []api.Op{leap(0, 0, 3), aside, aside, end(0, 0), aside})
		checkSound(t, 1, []api.Op{end(0, 1), aside})
		checkSound(t, 2, []api.Op{leap(0, 0, 0), aside})
	}
}

// P13.1: code is sound, if each of its parts is.
func TestAllParts(t *testing.T) {
	right := api.Part{Kind: "rule", Ops: []api.Op{end(0, 0)}}
	left := api.Part{Kind: "from", Name: "x", Ops: []api.Op{end(0, 1)}}
	wrong := api.Part{Kind: "to", Ops: []api.Op{end(0, 0)}}
	for _, c := range []struct {
		parts []api.Part
		want  bool
	}{
		{nil, true}, {[]api.Part{}, true}, {[]api.Part{right}, true}, {[]api.Part{left}, true}, {[]api.Part{wrong}, false}, {[]api.Part{{}}, false}, {[]api.Part{{Kind: "rule"}}, false},
		{[]api.Part{right, left, right}, true}, {[]api.Part{wrong, right, left}, false}, {[]api.Part{right, wrong, left}, false}, {[]api.Part{right, left, wrong}, false}, {[]api.Part{right, {}}, false},
	} {
		if Check(c.parts) != c.want {
			t.Errorf("%v: not %v", c.parts, c.want)
		}
	}
}

// plainSound tells by the chapter's words whether ops are sound: all ways from the op at i on are gone, of so many ops at most. (Of all ways to an op that tell apart how many values are there, a shortest one has no more.)
func plainSound(ops []api.Op, left, i, count, most int, counts map[int]int) bool {
	if i >= len(ops) {
		return false
	}
	if known, ok := counts[i]; ok && known != count {
		return false
	}
	counts[i] = count
	o := ops[i]
	if o.Pop < 0 || o.Push < 0 || o.Push > 1000000 || count < o.Pop {
		return false
	}
	behind := count - o.Pop + o.Push
	if o.Last && o.Jump < 0 && behind != left {
		return false
	}
	if most == 0 {
		return true
	}
	return (o.Last || plainSound(ops, left, i+1, behind, most-1, counts)) && (o.Jump < 0 || plainSound(ops, left, o.Jump, behind, most-1, counts))
}

// checkPlain holds Check of ops against plainSound, and tells whether they are sound.
func checkPlain(t *testing.T, ops []api.Op, kind string) bool {
	t.Helper()
	want := plainSound(ops, one(kind), 0, 0, len(ops), map[int]int{})
	if Check([]api.Part{{Kind: kind, Ops: ops}}) != want {
		t.Errorf("%s of %v: not %v", kind, ops, want)
	}
	return want
}

// P13.1: Check is held against the chapter's words at all short code.
func TestAllShortCode(t *testing.T) {
	var first, few []api.Op
	for jump := -1; jump <= 2; jump++ {
		for _, last := range []bool{false, true} {
			for pop := -1; pop <= 2; pop++ {
				for push := -1; push <= 2; push++ {
					o := api.Op{Pop: pop, Push: push, Jump: jump, Last: last}
					first = append(first, o)
					if pop >= 0 && push >= 0 && pop+push <= 2 {
						few = append(few, o)
					}
				}
			}
		}
	}
	sound := 0
	for _, kind := range []string{"rule", "pattern"} {
		for _, a := range first {
			for _, b := range first {
				if checkPlain(t, []api.Op{a, b}, kind) {
					sound++
				}
			}
		}
		for _, a := range few {
			for _, b := range few {
				for _, c := range few {
					if checkPlain(t, []api.Op{a, b, c}, kind) {
						sound++
					}
				}
			}
		}
	}
	if sound < 1000 {
		t.Errorf("%d are sound", sound)
	}
}

// P13.1: Check is held against the chapter's words at longer code, of which much is nearly sound.
func TestLongerCode(t *testing.T) {
	bits := sample.Bits(1200000)
	pick := func(n int) int {
		b := bits[0] >> 33 % uint64(n)
		bits = bits[1:]
		return int(b)
	}
	sound := 0
	for len(bits) > 100 {
		ops := make([]api.Op, 3+pick(5))
		for i := range ops {
			shape := pick(8)
			ops[i] = op(shape%2, shape%2)
			switch {
			case shape < 2:
				ops[i] = op(pick(2), pick(2))
			case shape < 5:
				ops[i].Jump = pick(len(ops))
				ops[i].Last = pick(3) == 0
			}
		}
		ops[len(ops)-1].Last = true
		if checkPlain(t, ops, allKinds()[pick(9)]) {
			sound++
		}
	}
	if sound < 1000 {
		t.Errorf("%d are sound", sound)
	}
}
