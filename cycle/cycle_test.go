package cycle_test

import (
	"math"
	"slices"
	"testing"

	"recant/api"
	"recant/cycle"
	"recant/extend"
)

// wantLeast holds Least to its answer, and to leave the edges as they were.
func wantLeast(t *testing.T, after []uint32, want []int, err api.Errno) {
	t.Helper()
	was := slices.Clone(after)
	if got, gotErr := cycle.Least(after); !slices.Equal(got, want) || gotErr != err {
		t.Fatalf("Least(%b) = %v, %d; want %v, %d", after, got, gotErr, want, err)
	}
	if !slices.Equal(after, was) {
		t.Fatalf("%b is left as %b", was, after)
	}
}

// wantWalk holds Walk to its answer, and to leave the edges and the row as they were.
func wantWalk(t *testing.T, after []uint32, row []int, want bool, err api.Errno) {
	t.Helper()
	was, rowWas := slices.Clone(after), slices.Clone(row)
	if got, gotErr := cycle.Walk(after, row); got != want || gotErr != err {
		t.Fatalf("Walk(%b, %v) = %v, %d; want %v, %d", after, row, got, gotErr, want, err)
	}
	if !slices.Equal(after, was) || !slices.Equal(row, rowWas) {
		t.Fatalf("%b, %v are left as %b, %v", was, rowWas, after, row)
	}
}

// wantBoth holds both calls to ErrArg, the second one of whatever row.
func wantBoth(t *testing.T, after []uint32) {
	t.Helper()
	wantLeast(t, after, nil, api.ErrArg)
	for _, row := range [][]int{nil, {0}, {0, 1}, {0, 0}, {-1}, {6}, {math.MaxInt, math.MinInt}} {
		wantWalk(t, after, row, false, api.ErrArg)
	}
}

// rows are all rows of so many of n places, rising, with those that have a place twice, or without them.
func rows(n, length int, twice bool) [][]int {
	all := [][]int{{}}
	for range length {
		var longer [][]int
		for _, row := range all {
			for place := range n {
				if twice || !slices.Contains(row, place) {
					longer = append(longer, append(slices.Clone(row), place))
				}
			}
		}
		all = longer
	}
	return all
}

// short are all rows of n places, none twice, less ones first.
func short(n int) [][]int {
	var all [][]int
	for length := 1; length <= n; length++ {
		all = append(all, rows(n, length, false)...)
	}
	return all
}

// leads tells whether bit k of number i is 1, by sums alone.
func leads(after []uint32, i, k int) bool {
	number := after[i]
	for range k {
		number /= 2
	}
	return number%2 == 1
}

// isCycle tells whether a row is a cycle, as the chapter's words define it.
func isCycle(after []uint32, row []int) bool {
	for n, place := range row {
		if slices.Contains(row[:n], place) || !leads(after, place, row[(n+1)%len(row)]) {
			return false
		}
	}
	return len(row) > 0
}

// edges are those of n places that have the bits of a number, n of them for each place.
func edges(n int, number uint64) []uint32 {
	var after []uint32
	for range n {
		after = append(after, uint32(number%(1<<n)))
		number >>= n
	}
	return after
}

// wantDefined holds both calls, of edges that may be, to the words, and what is answered to what follows. All are the rows that may be cycles, less ones first. It answers how long the least cycle is, 0 if there is none.
func wantDefined(t *testing.T, after []uint32, all [][]int) int {
	t.Helper()
	var least []int
	err := api.ErrNone
	for _, row := range all {
		is := isCycle(after, row)
		wantWalk(t, after, row, is, api.OK)
		if is && least == nil {
			least, err = row, api.OK
		}
	}
	wantLeast(t, after, least, err)
	wantFollows(t, after)
	return len(least)
}

// wantFollows holds Least to what follows, by its own answer and by the rows that keep all edges.
func wantFollows(t *testing.T, after []uint32) {
	t.Helper()
	least, err := cycle.Least(after)
	count, orderErr := extend.Count(after)
	if (err == api.OK) != (orderErr == api.ErrCycle) || (err == api.ErrNone) != (count > 0) {
		t.Fatalf("Least(%b) = %v, %d; Count = %d, %d", after, least, err, count, orderErr)
	}
	if err != api.OK {
		return
	}
	wantWalk(t, after, least, true, api.OK)
	if slices.Min(least) != least[0] {
		t.Fatalf("Least(%b) = %v", after, least)
	}
}

// P18.1: no places have no edges and no cycle, and any place is none of them.
func TestNone(t *testing.T) {
	for _, after := range [][]uint32{nil, {}} {
		wantLeast(t, after, nil, api.ErrNone)
		wantWalk(t, after, nil, false, api.OK)
		wantWalk(t, after, []int{}, false, api.OK)
		for _, place := range []int{0, 1, -1, math.MaxInt, math.MinInt} {
			wantWalk(t, after, []int{place}, false, api.ErrNone)
		}
	}
}

// P18.1: one place is a cycle, if an edge leads from it to itself; once only.
func TestOne(t *testing.T) {
	wantLeast(t, []uint32{0}, nil, api.ErrNone)
	wantLeast(t, []uint32{1}, []int{0}, api.OK)
	wantWalk(t, []uint32{0}, []int{0}, false, api.OK)
	wantWalk(t, []uint32{1}, []int{0}, true, api.OK)
	wantWalk(t, []uint32{1}, []int{0, 0}, false, api.OK)
	wantWalk(t, []uint32{1}, []int{}, false, api.OK)
	wantWalk(t, []uint32{1}, []int{1}, false, api.ErrNone)
}

// P18.1: the chapter's own example: a cycle of one place is less than one of two, though that begins with a less place.
func TestExample(t *testing.T) {
	wantLeast(t, []uint32{2, 1, 4}, []int{2}, api.OK)
	wantLeast(t, []uint32{2, 1, 0}, []int{0, 1}, api.OK)
}

// P18.1: bit k of number i is an edge from i to k, not from k to i.
func TestDirection(t *testing.T) {
	wantLeast(t, []uint32{2, 4, 1}, []int{0, 1, 2}, api.OK)
	wantLeast(t, []uint32{4, 1, 2}, []int{0, 2, 1}, api.OK)
	for _, row := range [][]int{{0, 1, 2}, {1, 2, 0}, {2, 0, 1}} {
		back := slices.Clone(row)
		slices.Reverse(back)
		wantWalk(t, []uint32{2, 4, 1}, row, true, api.OK)
		wantWalk(t, []uint32{2, 4, 1}, back, false, api.OK)
		wantWalk(t, []uint32{4, 1, 2}, row, false, api.OK)
		wantWalk(t, []uint32{4, 1, 2}, back, true, api.OK)
	}
}

// P18.1: of cycles as long as each other, the one whose first other place is less; a shorter one goes ahead of all of these.
func TestLess(t *testing.T) {
	wantLeast(t, []uint32{6, 5, 3}, []int{0, 1}, api.OK)
	wantLeast(t, []uint32{4, 4, 3}, []int{0, 2}, api.OK)
	wantLeast(t, []uint32{12, 8, 8, 1}, []int{0, 3}, api.OK)
	wantLeast(t, []uint32{2, 4, 9, 4}, []int{2, 3}, api.OK)
	wantLeast(t, []uint32{2, 4, 8, 17, 32, 0}, []int{0, 1, 2, 3}, api.OK)
	wantLeast(t, []uint32{6, 24, 24, 1, 1}, []int{0, 1, 3}, api.OK)
	wantLeast(t, []uint32{6, 16, 24, 1, 1}, []int{0, 1, 4}, api.OK)
	wantLeast(t, []uint32{6, 0, 24, 1, 1}, []int{0, 2, 3}, api.OK)
	wantLeast(t, []uint32{2, 4, 8, 1, 1 << 5, 1<<4 | 1<<5}, []int{5}, api.OK)
	wantLeast(t, []uint32{63, 63, 63, 63, 63, 63}, []int{0}, api.OK)
	wantLeast(t, []uint32{62, 61, 59, 55, 47, 31}, []int{0, 1}, api.OK)
}

// P18.1: places that ways lead to, and that have no way back, are on no cycle; nor is a cycle's edge into a way.
func TestWaysIn(t *testing.T) {
	wantLeast(t, []uint32{2, 4, 2}, []int{1, 2}, api.OK)
	wantLeast(t, []uint32{2, 4, 8, 20, 32, 0}, []int{2, 3}, api.OK)
	wantLeast(t, []uint32{6, 4, 0}, nil, api.ErrNone)
	wantLeast(t, []uint32{62, 60, 56, 48, 32, 0}, nil, api.ErrNone)
	wantLeast(t, []uint32{0, 1, 3, 7, 15, 31}, nil, api.ErrNone)
	wantLeast(t, []uint32{62, 60, 56, 48, 32, 16}, []int{4, 5}, api.OK)
	wantLeast(t, []uint32{0, 8, 0, 2, 0, 0}, []int{1, 3}, api.OK)
}

// P18.1: one cycle alone, of each length, at any places, begun at any of them, and broken at any of them.
func TestAlone(t *testing.T) {
	for length := 1; length <= api.MaxTx; length++ {
		for _, row := range rows(api.MaxTx, length, false) {
			after := make([]uint32, api.MaxTx)
			for i, place := range row {
				after[place] = 1 << row[(i+1)%length]
			}
			for range row {
				wantWalk(t, after, row, true, api.OK)
				if slices.Min(row) == row[0] {
					wantLeast(t, after, row, api.OK)
				}
				row = slices.Concat(row[1:], row[:1])
			}
			wantWalk(t, after, slices.Concat(row, row), false, api.OK)
			wantWalk(t, after, append(slices.Clone(row), row[0]), false, api.OK)
			for _, place := range row {
				broken := slices.Clone(after)
				broken[place] = 0
				wantWalk(t, broken, row, false, api.OK)
				wantLeast(t, broken, nil, api.ErrNone)
			}
		}
	}
}

// P18.1: a row whose places are there twice is no cycle, though an edge leads from each to the next one.
func TestTwice(t *testing.T) {
	all := []uint32{63, 63, 63, 63, 63, 63}
	for _, row := range [][]int{{0, 0}, {3, 3, 3}, {0, 1, 0}, {0, 1, 0, 1}, {0, 1, 2, 1}, {5, 4, 3, 2, 1, 0, 5}, {0, 1, 2, 3, 4, 5, 1}} {
		wantWalk(t, all, row, false, api.OK)
	}
	for length := 1; length <= api.MaxTx; length++ {
		for _, row := range rows(api.MaxTx, length, false) {
			wantWalk(t, all, row, true, api.OK)
		}
	}
}

// P18.1: Walk: a place that is none, wherever in the row, also behind what is no cycle.
func TestNoPlaceOfRow(t *testing.T) {
	for n := 1; n <= api.MaxTx; n++ {
		for _, after := range [][]uint32{make([]uint32, n), edges(n, math.MaxUint64)} {
			for _, none := range []int{-1, -2, n, n + 1, 31, 32, 33, 63, 64, 65, math.MaxInt32, math.MinInt32, math.MaxInt, math.MinInt} {
				wantWalk(t, after, []int{none}, false, api.ErrNone)
				wantWalk(t, after, []int{none, none}, false, api.ErrNone)
				for place := range n + 1 {
					row := slices.Insert(rows(n, n, false)[0], place, none)
					wantWalk(t, after, row, false, api.ErrNone)
					wantWalk(t, after, append([]int{0, 0}, row...), false, api.ErrNone)
				}
			}
		}
	}
}

// P18.1, P1: rows of any length: a place that is none is found at the end of a long one, too.
func TestLongRows(t *testing.T) {
	row := make([]int, 100000)
	for i := range row {
		row[i] = i % 3
	}
	wantWalk(t, []uint32{2, 4, 1}, row, false, api.OK)
	wantWalk(t, []uint32{7, 7, 7}, row, false, api.OK)
	wantWalk(t, []uint32{0, 0, 0}, row, false, api.OK)
	row[len(row)-1] = 3
	wantWalk(t, []uint32{2, 4, 1}, row, false, api.ErrNone)
	wantWalk(t, []uint32{0, 0, 0}, row, false, api.ErrNone)
	wantWalk(t, []uint32{8, 0, 0}, row, false, api.ErrArg)
}

// P18.1: more than 6 places, of whatever numbers; it goes ahead of what is wrong with the row.
func TestTooMany(t *testing.T) {
	for _, n := range []int{api.MaxTx + 1, api.MaxTx + 2, 31, 32, 33, 63, 64, 65, 100000} {
		after := make([]uint32, n)
		wantBoth(t, after)
		after[0] = 1
		wantBoth(t, after)
		after[n-1] = math.MaxUint32
		wantBoth(t, after)
	}
}

// P18.1: a bit that is no place's, of any number, for each count of places, alone or beside a cycle.
func TestNoPlace(t *testing.T) {
	for n := 1; n <= api.MaxTx; n++ {
		for place := range n {
			for bit := n; bit < 32; bit++ {
				after := make([]uint32, n)
				after[place] = 1 << bit
				wantBoth(t, after)
				after[0] |= 1
				wantBoth(t, after)
				after[place] |= 1 << place
				wantBoth(t, after)
			}
			after := edges(n, math.MaxUint64)
			after[place] = math.MaxUint32
			wantBoth(t, after)
			after[place] = 1 << n
			wantBoth(t, after)
			after[place] = 1<<n - 1
			wantLeast(t, after, []int{0}, api.OK)
		}
	}
}

// P18.1, P18.2: all edges of up to four places: what the words define, and what follows.
func TestAllEdges(t *testing.T) {
	for n := range 5 {
		all := short(n)
		for number := range uint64(1) << (n * n) {
			wantDefined(t, edges(n, number), all)
		}
	}
}

// P18.1: all edges of up to three places, and all rows of up to five, with those that have a place twice.
func TestAllRows(t *testing.T) {
	for n := range 4 {
		for length := range api.MaxTx {
			for _, row := range rows(n, length, true) {
				for number := range uint64(1) << (n * n) {
					after := edges(n, number)
					wantWalk(t, after, row, isCycle(after, row), api.OK)
				}
			}
		}
	}
}

// P18.1, P18.2: many edges of five and six places, few and more of them, so that the least cycles are of all lengths.
func TestManyEdges(t *testing.T) {
	number := uint64(1)
	next := func() uint64 {
		number = number*6364136223846793005 + 1442695040888963407
		return number >> 20
	}
	for n := 5; n <= api.MaxTx; n++ {
		var lengths [api.MaxTx + 1]int
		all := short(n)
		whole := rows(n, n, false)
		for round := range 1500 {
			after := edges(n, next()&next()&next())
			// Edges that go one way of a row but for one have long cycles or none.
			row := whole[next()%uint64(len(whole))]
			for i := range row {
				for k := range i + 1 {
					after[row[i]] &^= 1 << row[k]
				}
			}
			if round%3 > 0 {
				for i := range n - 1 {
					after[row[i]] = 1<<row[i+1] | after[row[i]]&uint32(next()&next())
				}
			}
			after[row[n-1-round%2]] |= 1 << row[next()%uint64(n-1)]
			lengths[wantDefined(t, after, all)]++
		}
		if slices.Contains(lengths[:n+1], 0) {
			t.Fatalf("of %d places so many of each length: %v", n, lengths)
		}
	}
}

// R1: an answer is the caller's own: what is written into it changes no later one.
func TestAnswersAreNew(t *testing.T) {
	after := []uint32{2, 4, 1}
	for range 3 {
		least, err := cycle.Least(after)
		if err != api.OK || !slices.Equal(least, []int{0, 1, 2}) {
			t.Fatal(least, err)
		}
		least = append(least, 9)
		clear(least)
	}
}

// R4: what stands in the room behind the numbers and the row counts for nothing, and stays.
func TestRoomBehind(t *testing.T) {
	room, rowRoom := []uint32{0, 0, 4, 99}, []int{0, 2, 0, 77}
	wantLeast(t, room[:2], nil, api.ErrNone)
	wantLeast(t, room[:3], []int{2}, api.OK)
	wantLeast(t, room[:0], nil, api.ErrNone)
	wantWalk(t, room[:3], rowRoom[1:2], true, api.OK)
	wantWalk(t, room[:3], rowRoom[:2], false, api.OK)
	if !slices.Equal(room, []uint32{0, 0, 4, 99}) || !slices.Equal(rowRoom, []int{0, 2, 0, 77}) {
		t.Fatal(room, rowRoom)
	}
}
