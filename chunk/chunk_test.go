package chunk

import (
	"fmt"
	"math"
	"math/big"
	"testing"

	"tedder/api"
	"tedder/sample"
)

// shown gives shards as a text: each piece as its file, From and To.
func shown(shards [][]api.Piece) string {
	return fmt.Sprint(shards)
}

// checkCut holds Cut against what it answers.
func checkCut(t *testing.T, counts []int, k int, want string) {
	t.Helper()
	if got := shown(Cut(counts, k)); got != want {
		t.Errorf("%v for %d: %.300s, not %.300s", counts, k, got, want)
	}
}

// checkNothing asks for nothing, whatever may stand for k.
func checkNothing(t *testing.T, counts []int, numbers ...int) {
	t.Helper()
	for _, k := range numbers {
		if got := Cut(counts, k); got != nil {
			t.Errorf("%.60v for %d: %.300s, not nothing", counts, k, shown(got))
		}
	}
}

// P18.1: the chapter's example.
func TestExample(t *testing.T) {
	checkCut(t, []int{3, 2}, 2, "[[{0 0 2}] [{0 2 3} {1 0 2}]]")
}

// P18.1: the shares of one file begin at i n / k, cut to integers.
func TestOneFile(t *testing.T) {
	checkCut(t, []int{6}, 1, "[[{0 0 6}]]")
	checkCut(t, []int{6}, 2, "[[{0 0 3}] [{0 3 6}]]")
	checkCut(t, []int{6}, 3, "[[{0 0 2}] [{0 2 4}] [{0 4 6}]]")
	checkCut(t, []int{6}, 4, "[[{0 0 1}] [{0 1 3}] [{0 3 4}] [{0 4 6}]]")
	checkCut(t, []int{6}, 5, "[[{0 0 1}] [{0 1 2}] [{0 2 3}] [{0 3 4}] [{0 4 6}]]")
	checkCut(t, []int{7}, 2, "[[{0 0 3}] [{0 3 7}]]")
	checkCut(t, []int{8}, 3, "[[{0 0 2}] [{0 2 5}] [{0 5 8}]]")
}

// P18.1: where there are fewer records than shards, some shards have no pieces.
func TestFewRecords(t *testing.T) {
	checkCut(t, []int{1}, 1, "[[{0 0 1}]]")
	checkCut(t, []int{1}, 2, "[[] [{0 0 1}]]")
	checkCut(t, []int{1}, 3, "[[] [] [{0 0 1}]]")
	checkCut(t, []int{2}, 3, "[[] [{0 0 1}] [{0 1 2}]]")
	checkCut(t, []int{2}, 5, "[[] [] [{0 0 1}] [] [{0 1 2}]]")
	checkCut(t, []int{1, 1}, 5, "[[] [] [{0 0 1}] [] [{1 0 1}]]")
}

// P18.1: without records there are k lists all the same, each without pieces.
func TestNoRecords(t *testing.T) {
	for _, counts := range [][]int{nil, {}, {0}, {0, 0, 0}, {-1}, {-3, 0, math.MinInt}} {
		checkCut(t, counts, 1, "[[]]")
		checkCut(t, counts, 4, "[[] [] [] []]")
		if got := Cut(counts, api.MaxWorkers); len(got) != api.MaxWorkers {
			t.Errorf("%v: %d lists", counts, len(got))
		}
	}
}

// P18.1: a shard has a piece of each file of which it has records, and of no other one.
func TestFiles(t *testing.T) {
	checkCut(t, []int{3, 2}, 1, "[[{0 0 3} {1 0 2}]]")
	checkCut(t, []int{2, 2}, 2, "[[{0 0 2}] [{1 0 2}]]")
	checkCut(t, []int{1, 1, 1}, 1, "[[{0 0 1} {1 0 1} {2 0 1}]]")
	checkCut(t, []int{1, 1, 1, 1}, 2, "[[{0 0 1} {1 0 1}] [{2 0 1} {3 0 1}]]")
	checkCut(t, []int{1, 7, 1}, 3, "[[{0 0 1} {1 0 2}] [{1 2 5}] [{1 5 7} {2 0 1}]]")
	checkCut(t, []int{5, 1}, 4, "[[{0 0 1}] [{0 1 3}] [{0 3 4}] [{0 4 5} {1 0 1}]]")
}

// P18.1: files without records have no pieces, wherever they stand, but have their numbers.
func TestEmptyFiles(t *testing.T) {
	checkCut(t, []int{0, 2, 0, 0, 2, 0}, 1, "[[{1 0 2} {4 0 2}]]")
	checkCut(t, []int{0, 2, 0, 0, 2, 0}, 2, "[[{1 0 2}] [{4 0 2}]]")
	checkCut(t, []int{0, 2, 0, 0, 2, 0}, 4, "[[{1 0 1}] [{1 1 2}] [{4 0 1}] [{4 1 2}]]")
}

// P18.1: a count below 0 counts as 0: it takes no records from other files.
func TestBelowZero(t *testing.T) {
	for _, low := range []int{-1, -2, -1 << 31, math.MinInt} {
		checkCut(t, []int{low, 3}, 1, "[[{1 0 3}]]")
		checkCut(t, []int{3, low}, 3, "[[{0 0 1}] [{0 1 2}] [{0 2 3}]]")
		checkCut(t, []int{2, low, low, 2}, 2, "[[{0 0 2}] [{3 0 2}]]")
		checkCut(t, []int{low, 0, 4, low, 1}, 3, "[[{2 0 1}] [{2 1 3}] [{2 3 4} {4 0 1}]]")
		checkNothing(t, []int{math.MaxInt32, low, 1}, 1)
		checkNothing(t, []int{low, math.MaxInt32, 1}, 1)
	}
}

// P18.1: there are 1 to 4096 shards.
func TestNumberOfShards(t *testing.T) {
	for _, counts := range [][]int{nil, {0}, {1}, {3, 2}, {-1}, {1 << 31}} {
		checkNothing(t, counts, 0, -1, -2, -4096, 4097, 4098, 8192, 1<<31-1, 1<<31, math.MaxInt, math.MinInt)
	}
	for _, k := range []int{1, 2, 4095, 4096} {
		if got := Cut([]int{4096}, k); len(got) != k {
			t.Errorf("for %d: %d lists", k, len(got))
		}
	}
	for i, pieces := range Cut([]int{4096}, 4096) {
		if want := fmt.Sprintf("[{0 %d %d}]", i, i+1); fmt.Sprint(pieces) != want {
			t.Errorf("%v, not %s", pieces, want)
		}
	}
}

// P18.1: there are at most 2^31 - 1 records.
func TestNumberOfRecords(t *testing.T) {
	checkCut(t, []int{1<<31 - 1}, 1, "[[{0 0 2147483647}]]")
	checkCut(t, []int{1<<31 - 1}, 2, "[[{0 0 1073741823}] [{0 1073741823 2147483647}]]")
	checkCut(t, []int{0, 1<<31 - 2, 1, 0}, 1, "[[{1 0 2147483646} {2 0 1}]]")
	checkCut(t, []int{1 << 30, 1<<30 - 1}, 1, "[[{0 0 1073741824} {1 0 1073741823}]]")
	for _, counts := range [][]int{
		{1 << 31}, {1<<31 + 1}, {1 << 32}, {math.MaxInt}, {1<<31 - 1, 1}, {1, 1<<31 - 1}, {1 << 30, 1 << 30}, {1 << 30, 0, 1 << 30, 5},
		{math.MaxInt, math.MaxInt}, {math.MaxInt, 1}, {1, math.MaxInt}, {math.MaxInt, math.MaxInt, 2}, {1 << 62, 1 << 62, 1 << 62, 1 << 62}, {math.MaxInt, math.MinInt}, {1 << 31, -1}, {-1, 1 << 31},
	} {
		checkNothing(t, counts, 1, 2, 3, 4096, 0, 4097)
	}
}

// plainCut says the chapter's words again record by record.
func plainCut(counts []int, k int) [][]api.Piece {
	n := 0
	for _, count := range counts {
		n += max(count, 0)
	}
	shards := make([][]api.Piece, k)
	record := 0
	for file, count := range counts {
		for at := range count {
			i := 0
			for (i+1)*n/k <= record {
				i++
			}
			if last := len(shards[i]) - 1; last >= 0 && shards[i][last].File == file {
				shards[i][last].To = at + 1
			} else {
				shards[i] = append(shards[i], api.Piece{File: file, From: at, To: at + 1})
			}
			record++
		}
	}
	return shards
}

// checkPlain asks for what the chapter's words tell, and holds it against P18.2.
func checkPlain(t *testing.T, counts []int, k int) {
	t.Helper()
	checkCut(t, counts, k, shown(plainCut(counts, k)))
	checkWhole(t, counts, k)
}

// checkWhole asks that the pieces are all records, each once, in order, and that no shard has two more than another one.
func checkWhole(t *testing.T, counts []int, k int) {
	t.Helper()
	file, next := 0, 0
	least, most := math.MaxInt, 0
	for i, pieces := range Cut(counts, k) {
		size := 0
		for _, p := range pieces {
			for file < len(counts) && next >= counts[file] {
				file, next = file+1, 0
			}
			if p.File != file || p.From != next || p.To <= p.From || p.To > counts[file] {
				t.Errorf("%.60v for %d: shard %d has %v, not from %d of file %d on", counts, k, i, p, next, file)
				return
			}
			next = p.To
			size += p.To - p.From
		}
		least, most = min(least, size), max(most, size)
	}
	for file < len(counts) && next >= counts[file] {
		file, next = file+1, 0
	}
	if file != len(counts) || most > least+1 {
		t.Errorf("%.60v for %d: the pieces end at %d of file %d, sizes are %d to %d", counts, k, next, file, least, most)
	}
}

// P18.1, P18.2: all small counts, among few shards.
func TestSmallCounts(t *testing.T) {
	for _, s := range sample.Texts("/01235", 5) {
		var counts []int
		for _, c := range s {
			counts = append(counts, int(c)-'0')
		}
		for k := 1; k < 8; k++ {
			checkPlain(t, counts, k)
		}
		checkPlain(t, counts, 31)
	}
}

// P18.1, P18.2: one file of any size up to 200, among up to 200 shards.
func TestSizes(t *testing.T) {
	for n := range 200 {
		for k := 1; k <= 200; k += 1 + k%3 {
			checkPlain(t, []int{n}, k)
		}
	}
}

// P18.1, P18.2: made-up counts among made-up numbers of shards.
func TestMadeCounts(t *testing.T) {
	bits := sample.Bits(20000)
	next := func(n int) int {
		b := bits[0] >> 33 % uint64(n)
		bits = bits[1:]
		return int(b)
	}
	for len(bits) > 200 {
		var counts []int
		most := 1 + next(40)
		for range next(100) {
			counts = append(counts, next(most)-next(3))
		}
		checkPlain(t, counts, 1+next(60))
		checkWhole(t, counts, 1+next(api.MaxWorkers))
	}
}

// plainBegin gives i n / k, cut to an integer, as an exact fraction has it.
func plainBegin(i, n, k int) int {
	product := new(big.Int).Mul(big.NewInt(int64(i)), big.NewInt(int64(n)))
	return int(product.Quo(product, big.NewInt(int64(k))).Int64())
}

// P18.1, P18.2: great counts among any number of shards: no product is cut short.
func TestGreatCounts(t *testing.T) {
	for _, n := range []int{1<<31 - 1, 1<<31 - 2, 1 << 30, 1<<30 + 1, 2000000011, 1 << 20} {
		for _, k := range []int{1, 2, 3, 5, 7, 64, 1000, 1023, 4093, 4095, 4096} {
			for i, pieces := range Cut([]int{n}, k) {
				want := api.Piece{To: plainBegin(i+1, n, k), From: plainBegin(i, n, k)}
				if len(pieces) != 1 || pieces[0] != want {
					t.Errorf("%d for %d: shard %d has %v, not %v", n, k, i, pieces, want)
				}
			}
			for _, counts := range [][]int{{n}, {n / 3, 0, n / 2, -7, n / 6}, {1, n - 2, 1}} {
				checkWhole(t, counts, k)
			}
		}
	}
}
