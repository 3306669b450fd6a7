package assoc

import (
	"slices"
	"strings"
	"testing"
	"unsafe"

	"tedder/api"
	"tedder/sample"
	"tedder/value"
)

// R4: Keys are the caller's own: what is done with them changes no array, and no other Keys.
func TestOwnKeys(t *testing.T) {
	a := with("b", "a", "c")
	b := a.Copy()
	first, second, others := a.Keys(), a.Keys(), b.Keys()
	room := first[:cap(first)]
	for i := range room {
		room[i] = "spoilt"
	}
	want := []string{"a", "b", "c"}
	if !slices.Equal(second, want) || !slices.Equal(others, want) {
		t.Errorf("%q, %q", second, others)
	}
	checkKeys(t, a, want...)
	checkKeys(t, b, want...)

	a.Delete("a")
	a.Put("d", nil)
	if !slices.Equal(second, want) {
		t.Errorf("%q", second)
	}
}

// P9.1: keys may be deleted and put while those that were there are gone through.
func TestChangesAmongKeys(t *testing.T) {
	a := with("a", "b", "c")
	for _, key := range a.Keys() {
		a.Delete(key)
		a.Put(key+key, ofStr(key))
	}
	checkKeys(t, a, "aa", "bb", "cc")
}

// R4: the memory of what is handed in as a key isn't kept, whether the key was there or not.
func TestKeyNotKept(t *testing.T) {
	line := strings.Repeat("key ", 1000)
	a := New()
	for i := range 3 {
		key := line[4*i : 4*i+3]
		a.Put(key, ofNum(float64(i)))
		for _, kept := range [][]string{a.Keys(), a.Copy().Keys()} {
			if len(kept) != 1 || kept[0] != key || unsafe.StringData(kept[0]) == unsafe.StringData(key) {
				t.Errorf("%q kept of the line", kept)
			}
		}
	}
}

// plainArray is an array told by the chapter's words: pairs in the order of their keys.
type plainArray struct {
	keys []string
	vals []api.Val
}

func (p *plainArray) put(key string, v api.Val) {
	i, there := slices.BinarySearch(p.keys, key)
	if !there {
		p.keys = slices.Insert(p.keys, i, key)
		p.vals = slices.Insert(p.vals, i, v)
	}
	p.vals[i] = v
}

func (p *plainArray) remove(key string) {
	if i, there := slices.BinarySearch(p.keys, key); there {
		p.keys = slices.Delete(p.keys, i, i+1)
		p.vals = slices.Delete(p.vals, i, i+1)
	}
}

func (p *plainArray) copied() *plainArray {
	return &plainArray{slices.Clone(p.keys), slices.Clone(p.vals)}
}

// checkAlike asks of a what p tells, at all keys that there may be.
func checkAlike(t *testing.T, a *Array, p *plainArray, all []string) {
	t.Helper()
	checkKeys(t, a, p.keys...)
	for _, key := range all {
		want := api.Val{Kind: "none"}
		i, there := slices.BinarySearch(p.keys, key)
		if there {
			want = p.vals[i]
		}
		checkValue(t, a, key, want, there)
	}
}

// P9.1: after any calls in any order several arrays, some of them copies of others, are what the chapter's words make of them.
func TestManyCalls(t *testing.T) {
	all := sample.Texts("a\x00\xff", 2)
	vals := []api.Val{{Kind: "none"}, {Kind: "num", Num: 2}, {Kind: "str", Str: "x"}, {Kind: "both", Num: 7, Str: " 7"}}
	arrays := []*Array{New(), New(), New(), New()}
	plain := []*plainArray{{}, {}, {}, {}}
	for step, bits := range sample.Bits(20000) {
		i, k := int(bits>>8%4), int(bits>>12%4)
		key := all[bits>>16%uint64(len(all))]
		switch n := bits >> 32 % 100; {
		case n < 55:
			arrays[i].Put(key, value.Of(vals[k]))
			plain[i].put(key, vals[k])
		case n < 60:
			arrays[i].Put(key, nil)
			plain[i].put(key, api.Val{Kind: "none"})
		case n < 90:
			arrays[i].Delete(key)
			plain[i].remove(key)
		case n < 92:
			arrays[i].Clear()
			*plain[i] = plainArray{}
		default:
			arrays[i] = arrays[k].Copy()
			plain[i] = plain[k].copied()
		}
		if step%10 == 0 {
			for i := range arrays {
				checkAlike(t, arrays[i], plain[i], all)
			}
		}
	}
}

// P0, R7: arrays with many keys, and with long ones, answer, and answer the same again.
func TestGreatArrays(t *testing.T) {
	a, b := New(), New()
	keys := sample.Texts("ab01", 8)
	for i := range keys {
		a.Put(keys[i], ofNum(1))
		b.Put(keys[len(keys)-1-i], ofNum(1))
	}
	slices.Sort(keys)
	checkKeys(t, a, keys...)
	checkKeys(t, a, keys...)
	checkKeys(t, b, keys...)
	b.Clear()
	checkKeys(t, b)
	checkKeys(t, a.Copy(), keys...)

	long := strings.Repeat("\xffk", 1<<20)
	b.Put(long+"b", ofStr(long))
	b.Put(long, nil)
	b.Put(long+"a", ofStr(""))
	checkKeys(t, b, long, long+"a", long+"b")
	checkValue(t, b, long+"b", api.Val{Kind: "str", Str: long}, true)
	checkValue(t, b, long+"c", api.Val{Kind: "none"}, false)
}
