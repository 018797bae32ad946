package extend_test

import (
	"math"
	"slices"
	"testing"

	"recant/api"
	"recant/extend"
)

// wantRows holds all three calls, of one order, to these rows.
func wantRows(t *testing.T, after []uint32, want ...[]int) {
	t.Helper()
	wantAnswers(t, after, want, api.OK)
}

// wantError holds all three calls to one error.
func wantError(t *testing.T, after []uint32, err api.Errno) {
	t.Helper()
	wantAnswers(t, after, nil, err)
}

func wantAnswers(t *testing.T, after []uint32, want [][]int, err api.Errno) {
	t.Helper()
	was := slices.Clone(after)
	if got, gotErr := extend.All(after); !slices.EqualFunc(got, want, slices.Equal) || gotErr != err {
		t.Fatalf("All(%b) = %v, %d; want %v, %d", after, got, gotErr, want, err)
	}
	if got, gotErr := extend.Count(after); got != len(want) || gotErr != err {
		t.Fatalf("Count(%b) = %d, %d; want %d, %d", after, got, gotErr, len(want), err)
	}
	var first []int
	if len(want) > 0 {
		first = want[0]
	}
	if got, gotErr := extend.First(after); !slices.Equal(got, first) || gotErr != err {
		t.Fatalf("First(%b) = %v, %d; want %v, %d", after, got, gotErr, first, err)
	}
	if !slices.Equal(after, was) {
		t.Fatalf("%b is left as %b", was, after)
	}
}

// listed are all lists of n places below n, rising, that have each place once.
func listed(n int) [][]int {
	all := [][]int{{}}
	for range n {
		var longer [][]int
		for _, row := range all {
			for place := range n {
				if !slices.Contains(row, place) {
					longer = append(longer, append(slices.Clone(row), place))
				}
			}
		}
		all = longer
	}
	return all
}

// isBefore tells whether bit k of number i is 1, by sums alone.
func isBefore(after []uint32, i, k int) bool {
	number := after[i]
	for range k {
		number /= 2
	}
	return number%2 == 1
}

// keeps tells of each two places of a row whether they may stand so.
func keeps(after []uint32, row []int) bool {
	for k := range row {
		for i := range k {
			if isBefore(after, row[k], row[i]) {
				return false
			}
		}
	}
	return true
}

// hasWayBack follows all ways from each place, so many steps as there are places.
func hasWayBack(after []uint32) bool {
	for start := range after {
		at := map[int]int{start: 1}
		for range after {
			to := map[int]int{}
			for i := range at {
				for k := range after {
					if isBefore(after, i, k) {
						to[k] = 1
					}
				}
			}
			if to[start] == 1 {
				return true
			}
			at = to
		}
	}
	return false
}

// wantDefined holds the calls, of an order whose bits are places', to the words, and what is answered to what follows.
func wantDefined(t *testing.T, after []uint32, all [][]int) {
	t.Helper()
	if hasWayBack(after) {
		wantError(t, after, api.ErrCycle)
		return
	}
	var kept [][]int
	for _, row := range all {
		if keeps(after, row) {
			kept = append(kept, row)
		}
	}
	wantRows(t, after, kept...)
	wantFollows(t, after)
}

// wantFollows holds All to what follows, by its own answers.
func wantFollows(t *testing.T, after []uint32) {
	t.Helper()
	rows, err := extend.All(after)
	if err != api.OK || len(rows) == 0 {
		t.Fatalf("All(%b) = %v, %d", after, rows, err)
	}
	for i := 1; i < len(rows); i++ {
		if slices.Compare(rows[i-1], rows[i]) >= 0 {
			t.Fatalf("All(%b): %v is behind %v", after, rows[i], rows[i-1])
		}
	}
	for i := range after {
		for k := range after {
			more := slices.Clone(after)
			more[i] |= 1 << k
			n, err := extend.Count(more)
			if err != api.OK && err != api.ErrCycle || n > len(rows) {
				t.Fatalf("Count(%b) = %d, %d; Count(%b) = %d", more, n, err, after, len(rows))
			}
		}
	}
}

// order is the one of n places that has the bits of a number, n of them for each place.
func order(n int, number uint64) []uint32 {
	var after []uint32
	for range n {
		after = append(after, uint32(number%(1<<n)))
		number >>= n
	}
	return after
}

// P11.1: no places have one row, the empty one.
func TestNone(t *testing.T) {
	wantRows(t, nil, []int{})
	wantRows(t, []uint32{}, []int{})
}

// P11.1: one place has one row, if it is not before itself.
func TestOne(t *testing.T) {
	wantRows(t, []uint32{0}, []int{0})
	wantError(t, []uint32{1}, api.ErrCycle)
	wantError(t, []uint32{2}, api.ErrArg)
	wantError(t, []uint32{3}, api.ErrArg)
}

// P11.1: the chapter's own example.
func TestExample(t *testing.T) {
	wantRows(t, []uint32{1 << 2, 0, 0}, []int{0, 1, 2}, []int{0, 2, 1}, []int{1, 0, 2})
}

// P11.1: bit k of number i tells that i is before k, not k before i.
func TestTwo(t *testing.T) {
	wantRows(t, []uint32{0, 0}, []int{0, 1}, []int{1, 0})
	wantRows(t, []uint32{2, 0}, []int{0, 1})
	wantRows(t, []uint32{0, 1}, []int{1, 0})
	wantError(t, []uint32{2, 1}, api.ErrCycle)
}

// P11.1: an order that does not tell what follows of it: 0 before 2 by way of 1.
func TestWay(t *testing.T) {
	wantRows(t, []uint32{2, 4, 0}, []int{0, 1, 2})
	wantRows(t, []uint32{6, 4, 0}, []int{0, 1, 2})
	wantRows(t, []uint32{0, 1, 2}, []int{2, 1, 0})
	wantRows(t, []uint32{4, 1, 0}, []int{1, 0, 2})
}

// P11.1: as many places as there may be, each one before the next, in one direction and the other.
func TestChain(t *testing.T) {
	wantRows(t, []uint32{2, 4, 8, 16, 32, 0}, []int{0, 1, 2, 3, 4, 5})
	wantRows(t, []uint32{62, 60, 56, 48, 32, 0}, []int{0, 1, 2, 3, 4, 5})
	wantRows(t, []uint32{0, 1, 2, 4, 8, 16}, []int{5, 4, 3, 2, 1, 0})
	wantError(t, []uint32{2, 4, 8, 16, 32, 1}, api.ErrCycle)
	wantError(t, []uint32{32, 1, 2, 4, 8, 16}, api.ErrCycle)
}

// P11.1: rows are held against each other by their first other place, also where a greater one is free earlier.
func TestRise(t *testing.T) {
	wantRows(t, []uint32{0, 0, 1, 2},
		[]int{2, 0, 3, 1}, []int{2, 3, 0, 1}, []int{2, 3, 1, 0},
		[]int{3, 1, 2, 0}, []int{3, 2, 0, 1}, []int{3, 2, 1, 0})
}

// P11.1: a way back, of each length, at any places, and ways back beside places that have a row.
func TestCycles(t *testing.T) {
	for length := 1; length <= api.MaxTx; length++ {
		for _, row := range listed(api.MaxTx) {
			after := make([]uint32, api.MaxTx)
			for i := range length {
				after[row[i]] = 1 << row[(i+1)%length]
			}
			wantError(t, after, api.ErrCycle)
			after[row[length-1]] = 0
			if n, err := extend.Count(after); n == 0 || err != api.OK {
				t.Fatalf("Count(%b) = %d, %d", after, n, err)
			}
		}
	}
	wantError(t, []uint32{2, 4, 12, 0}, api.ErrCycle)
	wantError(t, []uint32{63, 63, 63, 63, 63, 63}, api.ErrCycle)
}

// P11.1: more than 6 places, of whatever numbers.
func TestTooMany(t *testing.T) {
	for _, n := range []int{api.MaxTx + 1, api.MaxTx + 2, 31, 32, 33, 64, 100000} {
		after := make([]uint32, n)
		wantError(t, after, api.ErrArg)
		after[0] = 1
		wantError(t, after, api.ErrArg)
		after[n-1] = math.MaxUint32
		wantError(t, after, api.ErrArg)
	}
}

// P11.1: a bit that is no place's, of any number, for each count of places; it goes ahead of a way back, wherever the two are.
func TestNoPlace(t *testing.T) {
	for n := 1; n <= api.MaxTx; n++ {
		for place := range n {
			for bit := n; bit < 32; bit++ {
				after := make([]uint32, n)
				after[place] = 1 << bit
				wantError(t, after, api.ErrArg)
				after[place] |= 1 << place
				wantError(t, after, api.ErrArg)
				after[place] = 1 << bit
				after[0] |= 1
				wantError(t, after, api.ErrArg)
				after[n-1] |= 1 << (n - 1)
				wantError(t, after, api.ErrArg)
			}
			after := make([]uint32, n)
			after[place] = math.MaxUint32
			wantError(t, after, api.ErrArg)
		}
	}
	wantError(t, []uint32{2, 1, 8}, api.ErrArg)
	wantError(t, []uint32{2, 9, 0}, api.ErrArg)
}

// P11.1, P11.2: so many places without any order have all rows, 1·2·...·n of them.
func TestWithoutOrder(t *testing.T) {
	count := 1
	for n := range api.MaxTx + 1 {
		count *= max(n, 1)
		if got, err := extend.Count(make([]uint32, n)); got != count || err != api.OK {
			t.Fatalf("Count of %d places = %d, %d; want %d", n, got, err, count)
		}
		wantRows(t, make([]uint32, n), listed(n)...)
		wantFollows(t, make([]uint32, n))
	}
}

// P11.1, P11.2: all numbers of up to four places: what the words define, and what follows.
func TestAllOrders(t *testing.T) {
	for n := range 5 {
		all := listed(n)
		for number := range uint64(1) << (n * n) {
			wantDefined(t, order(n, number), all)
		}
	}
}

// P11.1, P11.2: many orders of five and six places, most of them without a way back: what is asked goes one way of a row.
func TestManyOrders(t *testing.T) {
	number := uint64(1)
	for n := 5; n <= api.MaxTx; n++ {
		all := listed(n)
		for range 400 {
			number = number*6364136223846793005 + 1442695040888963407
			row := all[number>>32%uint64(len(all))]
			after := order(n, number>>20&(number>>13|number>>5))
			for i := range row {
				for k := range i + 1 {
					after[row[i]] &^= 1 << row[k]
				}
			}
			wantDefined(t, after, all)
			after[row[n-1]] |= 1 << row[number>>40%uint64(n)]
			wantDefined(t, after, all)
		}
	}
}

// R1: an answer is the caller's own, and each row of it is a list of its own: what is written into one, or behind it, changes no other one.
func TestAnswersAreNew(t *testing.T) {
	for n := range api.MaxTx + 1 {
		after := make([]uint32, n)
		want := listed(n)
		first, _ := extend.First(after)
		clear(first)
		_ = append(first, 77)
		rows, _ := extend.All(after)
		for i, row := range rows {
			if !slices.Equal(row, want[i]) {
				t.Fatalf("behind what was written into the rows ahead of it: %v; want %v", row, want[i])
			}
			clear(row)
			_ = append(row, 77, 77)
		}
		for _, row := range rows {
			if !slices.Equal(row, make([]int, n)) {
				t.Fatalf("behind what was written into the other rows: %v", row)
			}
		}
		wantRows(t, after, want...)
	}
}

// R4: what stands in the room behind the numbers counts for nothing, and stays.
func TestRoomBehind(t *testing.T) {
	room := []uint32{0, 0, 1, 99}
	wantRows(t, room[:2], []int{0, 1}, []int{1, 0})
	wantRows(t, room[:0], []int{})
	if !slices.Equal(room, []uint32{0, 0, 1, 99}) {
		t.Fatal(room)
	}
}
