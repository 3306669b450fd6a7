package chunk

import (
	"math"
	"slices"
	"sync"
	"testing"

	"tedder/api"
)

// many gives so many counts, all the same.
func many(size, count int) []int {
	return slices.Repeat([]int{count}, size)
}

// P0: long lists of counts are parted, and soon.
func TestLongLists(t *testing.T) {
	const long = 1 << 20
	for _, k := range []int{1, 2, 1000, 4096} {
		checkWhole(t, many(long, 1), k)
		checkWhole(t, many(long, 2), k)
		checkWhole(t, many(long, 2047), k)
		for _, empty := range []int{0, -1, math.MinInt} {
			checkWhole(t, many(long, empty), k)
			checkWhole(t, append(many(long, empty), 5000), k)
			checkWhole(t, append([]int{5000}, many(long, empty)...), k)
			checkWhole(t, slices.Repeat([]int{empty, 1}, long), k)
		}
		checkNothing(t, many(long, 2048), k)
		checkNothing(t, many(long, math.MaxInt), k)
	}
	checkNothing(t, many(long, 1), 0, -1, 4097)
}

// manyCounts gives counts with files of all kinds, and some of too many records.
func manyCounts() [][]int {
	return [][]int{nil, {0}, {1}, {3, 2}, {0, -5, 4, 0, 1}, {100, 1, 1, 1, 100}, {1<<31 - 1}, {1 << 31}, {1 << 30, 1 << 30}, {7, math.MinInt, 7}}
}

// R4: what is handed in stays as it is, and so does what lies behind it.
func TestArgument(t *testing.T) {
	for _, counts := range manyCounts() {
		all := append(slices.Clone(counts), -3, 9)
		want := slices.Clone(all)
		for _, k := range []int{0, 1, 3, 4096} {
			Cut(all[:len(counts)], k)
		}
		if !slices.Equal(all, want) {
			t.Errorf("%v is changed to %v", want, all)
		}
	}
}

// R4: what is answered doesn't change with what was handed in.
func TestArgumentNotKept(t *testing.T) {
	for _, counts := range manyCounts() {
		for _, k := range []int{1, 3, 50} {
			given := slices.Clone(counts)
			got := Cut(given, k)
			want := shown(got)
			for i := range given {
				given[i] = 77
			}
			if shown(got) != want {
				t.Errorf("%v for %d: %s changes to %s", counts, k, want, shown(got))
			}
		}
	}
}

// spoil changes all that a list of pieces has room for.
func spoil(pieces []api.Piece) {
	room := pieces[:cap(pieces)]
	for i := range room {
		room[i] = api.Piece{File: -1, From: -1, To: -1}
	}
}

// R4: what is answered is the caller's own: no other answer changes with it, nor one shard's pieces with another's.
func TestOwnAnswers(t *testing.T) {
	for _, counts := range manyCounts() {
		for _, k := range []int{1, 3, 50} {
			first, second := Cut(counts, k), Cut(counts, k)
			want := shown(second)
			for i := range first {
				spoil(first[i])
				if got, rest := shown(first[i+1:]), shown(second[i+1:]); got != rest {
					t.Errorf("%v for %d: %s behind shard %d, not %s", counts, k, got, i, rest)
				}
			}
			first = first[:cap(first)]
			clear(first)
			if got := shown(second); got != want || shown(Cut(counts, k)) != want {
				t.Errorf("%v for %d: an answer changes with another: %s, not %s", counts, k, got, want)
			}
		}
	}
}

// R7: what is asked is answered the same again, also where several ask at once.
func TestSameAnswers(t *testing.T) {
	var all sync.WaitGroup
	for range 8 {
		all.Go(func() {
			for range 300 {
				checkCut(t, []int{3, 2}, 2, "[[{0 0 2}] [{0 2 3} {1 0 2}]]")
				checkCut(t, []int{0, -5, 4, 0, 1}, 3, "[[{2 0 1}] [{2 1 3}] [{2 3 4} {4 0 1}]]")
				checkPlain(t, []int{9, 0, 4, 2}, 7)
				checkNothing(t, []int{1 << 31}, 2)
			}
		})
	}
	all.Wait()
}
