package order_test

import (
	"math"
	"slices"
	"strings"
	"testing"

	"recant/api"
	"recant/order"
	"recant/proper"
	"recant/table"
	"recant/text"
)

// parse are a text's events; a ';' ends a line, too.
func parse(t *testing.T, s string) []api.Event {
	t.Helper()
	h, at, err := text.Parse(strings.ReplaceAll(s, ";", "\n"))
	if err != api.OK {
		t.Fatalf("Parse(%q): %d at %d", s, err, at)
	}
	return h
}

// event is an event without a variable and a value.
func event(kind, tx int) api.Event {
	return api.Event{Kind: kind, Tx: tx}
}

func wantAfter(t *testing.T, h []api.Event, want ...uint32) {
	t.Helper()
	was := slices.Clone(h)
	got, err := order.After(h)
	if err != api.OK || !slices.Equal(got, want) {
		t.Fatalf("After(%v) = %b, %d; want %b", h, got, err, want)
	}
	if !slices.Equal(h, was) {
		t.Fatalf("After(%v) left %v", was, h)
	}
}

func wantBefore(t *testing.T, h []api.Event, i, k int, want bool, err api.Errno) {
	t.Helper()
	was := slices.Clone(h)
	if got, gotErr := order.Before(h, i, k); got != want || gotErr != err {
		t.Fatalf("Before(%v, %d, %d) = %v, %d; want %v, %d", h, i, k, got, gotErr, want, err)
	}
	if !slices.Equal(h, was) {
		t.Fatalf("Before(%v, %d, %d) left %v", was, i, k, h)
	}
}

func wantKeeps(t *testing.T, h []api.Event, row []int, want bool, err api.Errno) {
	t.Helper()
	was, wasRow := slices.Clone(h), slices.Clone(row)
	if got, gotErr := order.Keeps(h, row); got != want || gotErr != err {
		t.Fatalf("Keeps(%v, %v) = %v, %d; want %v, %d", h, row, got, gotErr, want, err)
	}
	if !slices.Equal(h, was) || !slices.Equal(row, wasRow) {
		t.Fatalf("Keeps(%v, %v) left %v, %v", was, wasRow, h, row)
	}
}

// wantError holds all three calls to one error, whatever else they are given.
func wantError(t *testing.T, h []api.Event, err api.Errno) {
	t.Helper()
	if got, gotErr := order.After(h); len(got) != 0 || gotErr != err {
		t.Fatalf("After(%v) = %v, %d; want %d", h, got, gotErr, err)
	}
	for _, place := range []int{0, 1, -1, 6, 99, math.MinInt, math.MaxInt} {
		wantBefore(t, h, 0, place, false, err)
		wantBefore(t, h, place, 0, false, err)
		wantKeeps(t, h, []int{place}, false, err)
	}
	wantKeeps(t, h, nil, false, err)
	wantKeeps(t, h, []int{}, false, err)
}

// defined is what is before what, as the chapter's words define it: by the events of two names alone.
func defined(h []api.Event) [][]bool {
	var names []int
	for _, e := range h {
		if !slices.Contains(names, e.Tx) {
			names = append(names, e.Tx)
		}
	}
	var all [][]bool
	for _, a := range names {
		var line []bool
		for _, b := range names {
			line = append(line, isDefinedBefore(h, a, b))
		}
		all = append(all, line)
	}
	return all
}

// isDefinedBefore tells whether a has an end, and b has no event ahead of it.
func isDefinedBefore(h []api.Event, a, b int) bool {
	for _, e := range h {
		if e.Tx == b {
			return false
		}
		if e.Tx == a && (e.Kind == api.ECommitted || e.Kind == api.EAborted) {
			return true
		}
	}
	return false
}

// isDefinedRow tells of each two places of a row whether they may stand so.
func isDefinedRow(before [][]bool, row []int) bool {
	for k := range row {
		for i := range k {
			if row[i] == row[k] || before[row[k]][row[i]] {
				return false
			}
		}
	}
	return true
}

// rows are all rows of at most a length, of places from least on up to most.
func rows(least, most, length int) [][]int {
	all := [][]int{nil}
	for begin := 0; length > 0; length-- {
		end := len(all)
		for _, row := range all[begin:end] {
			for place := least; place <= most; place++ {
				all = append(all, append(slices.Clone(row), place))
			}
		}
		begin = end
	}
	return all
}

// wantDefined holds After and Before, of all places, to the words.
func wantDefined(t *testing.T, h []api.Event) [][]bool {
	t.Helper()
	before := defined(h)
	n := len(before)
	var bits []uint32
	for i, line := range before {
		var number uint32
		for k, is := range line {
			if is {
				number += uint32(math.Pow(2, float64(k)))
			}
			wantBefore(t, h, i, k, is, api.OK)
		}
		bits = append(bits, number)
		wantBefore(t, h, i, n, false, api.ErrNone)
		wantBefore(t, h, n, i, false, api.ErrNone)
		wantBefore(t, h, i, -1, false, api.ErrNone)
		wantBefore(t, h, -1, i, false, api.ErrNone)
	}
	wantAfter(t, h, bits...)
	return before
}

// answered is what Before answers, of each two of so many places.
func answered(t *testing.T, h []api.Event, count int) [][]bool {
	t.Helper()
	var all [][]bool
	for i := range count {
		var line []bool
		for k := range count {
			is, err := order.Before(h, i, k)
			if err != api.OK {
				t.Fatalf("Before(%v, %d, %d): %d", h, i, k, err)
			}
			line = append(line, is)
		}
		all = append(all, line)
	}
	return all
}

// wantFollows holds Before to what follows, by its own answers, and Keeps by the table's own row.
func wantFollows(t *testing.T, h []api.Event) {
	t.Helper()
	l, err := table.Table(h)
	if err != api.OK {
		t.Fatal(h, err)
	}
	is := answered(t, h, len(l))
	for _, row := range rows(0, len(l)-1, 4) {
		if len(row) < 4 {
			continue
		}
		i, k, m, n := row[0], row[1], row[2], row[3]
		if is[i][i] || is[i][k] && is[k][m] && !is[i][m] || is[i][k] && is[m][n] && !is[i][n] && !is[m][k] {
			t.Fatalf("Before(%v): of %v it does not follow", h, row)
		}
	}
	own := []int{}
	for i := range l {
		own = append(own, i)
	}
	wantKeeps(t, h, own, true, api.OK)
}

// spans are all rows of begins and ends, of at most so many transactions and events.
func spans(most, length int, see func(h []api.Event)) {
	var grow func(h []api.Event, open []int, begun int)
	grow = func(h []api.Event, open []int, begun int) {
		see(h)
		if len(h) == length {
			return
		}
		if begun < most {
			grow(append(slices.Clone(h), event(api.EBegin, 9-begun)), append(slices.Clone(open), 9-begun), begun+1)
		}
		for i, tx := range open {
			grow(append(slices.Clone(h), event(api.EAborted, tx)), slices.Delete(slices.Clone(open), i, i+1), begun)
		}
	}
	grow(nil, nil, 0)
}

// P7.1: no events have no order, and the empty row alone keeps it.
func TestNone(t *testing.T) {
	for _, h := range [][]api.Event{nil, {}} {
		wantAfter(t, h)
		wantBefore(t, h, 0, 0, false, api.ErrNone)
		wantKeeps(t, h, nil, true, api.OK)
		wantKeeps(t, h, []int{}, true, api.OK)
		wantKeeps(t, h, []int{0}, false, api.ErrNone)
	}
}

// P7.1: the chapter's own example.
func TestExample(t *testing.T) {
	h := parse(t, "begin 1;aborted 1;begin 2")
	wantAfter(t, h, 1<<1, 0)
	wantBefore(t, h, 0, 1, true, api.OK)
	wantBefore(t, h, 1, 0, false, api.OK)
	wantKeeps(t, h, []int{0, 1}, true, api.OK)
	wantKeeps(t, h, []int{1, 0}, false, api.OK)
}

// P7.1: only what is ended is before another one, whether it was committed or aborted, and in whatever way.
func TestStates(t *testing.T) {
	for _, c := range []struct {
		s  string
		is bool
	}{
		{"begin 4", false},
		{"begin 4;begun 4", false},
		{"begin 4;aborted 4", true},
		{"begin 4;begun 4;read 4 1", false},
		{"begin 4;begun 4;read 4 1;got 4 5", false},
		{"begin 4;begun 4;read 4 1;aborted 4", true},
		{"begin 4;begun 4;write 4 1 5", false},
		{"begin 4;begun 4;write 4 1 5;wrote 4", false},
		{"begin 4;begun 4;write 4 1 5;aborted 4", true},
		{"begin 4;begun 4;commit 4", false},
		{"begin 4;begun 4;commit 4;committed 4", true},
		{"begin 4;begun 4;commit 4;aborted 4", true},
		{"begin 4;begun 4;cancel 4", false},
		{"begin 4;begun 4;cancel 4;aborted 4", true},
	} {
		h := parse(t, c.s+";begin 2;begun 2;commit 2;committed 2")
		wantBefore(t, h, 0, 1, c.is, api.OK)
		wantBefore(t, h, 1, 0, false, api.OK)
		wantKeeps(t, h, []int{0, 1}, true, api.OK)
		wantKeeps(t, h, []int{1, 0}, !c.is, api.OK)
		wantDefined(t, h)
	}
}

// P7.1: what ends behind another one's first event is not before it, though that one is not answered yet.
func TestOverlap(t *testing.T) {
	wantAfter(t, parse(t, "begin 1;begin 2;aborted 1;begun 2"), 0, 0)
	wantAfter(t, parse(t, "begin 1;begin 2;aborted 1;aborted 2"), 0, 0)
	wantAfter(t, parse(t, "begin 1;begin 2;aborted 2;aborted 1"), 0, 0)
	wantAfter(t, parse(t, "begin 1;aborted 1;begin 2;aborted 2"), 2, 0)
}

// P7.1: places are those of first events, not names, and not the order of ends.
func TestPlaces(t *testing.T) {
	h := parse(t, "begin 9999;begin 5;aborted 5;begin 0;aborted 9999;begin 7;aborted 7;begin 1;aborted 0;begin 3")
	wantAfter(t, h, 0b111000, 0b111100, 0b100000, 0b110000, 0, 0)
	wantKeeps(t, h, []int{1, 0, 3, 4, 2, 5}, true, api.OK)
	wantKeeps(t, h, []int{1, 2, 0, 3, 5, 4}, true, api.OK)
	wantKeeps(t, h, []int{1, 2, 0, 5, 3, 4}, false, api.OK)
	wantKeeps(t, h, []int{2, 3, 0}, false, api.OK)
	wantKeeps(t, h, []int{2, 0, 3, 4}, true, api.OK)
	wantKeeps(t, h, []int{5, 4}, true, api.OK)
	wantKeeps(t, h, []int{5, 4, 1}, false, api.OK)
	wantDefined(t, h)
}

// P7.1: as many transactions as there may be, one after the other: each bit.
func TestChain(t *testing.T) {
	h := parse(t, "begin 1;aborted 1;begin 2;aborted 2;begin 3;aborted 3;begin 4;aborted 4;begin 5;aborted 5;begin 6;aborted 6")
	wantAfter(t, h, 62, 60, 56, 48, 32, 0)
	wantKeeps(t, h, []int{0, 1, 2, 3, 4, 5}, true, api.OK)
	wantKeeps(t, h, []int{1, 3, 5}, true, api.OK)
	wantKeeps(t, h, []int{0, 1, 2, 3, 5, 4}, false, api.OK)
	wantKeeps(t, h, []int{5, 0}, false, api.OK)
}

// P7.1: a place that is no transaction's, of either of the two.
func TestBeforeNone(t *testing.T) {
	h := parse(t, "begin 3;aborted 3;begin 4")
	for _, place := range []int{-1, 2, 3, 4, 6, 32, 64, 1 << 32, math.MinInt, math.MaxInt} {
		wantBefore(t, h, 0, place, false, api.ErrNone)
		wantBefore(t, h, place, 1, false, api.ErrNone)
		wantBefore(t, h, place, place, false, api.ErrNone)
		wantKeeps(t, h, []int{place}, false, api.ErrNone)
	}
}

// P7.1: a place that is no transaction's goes ahead of what breaks the order, wherever in the row it is.
func TestKeepsNone(t *testing.T) {
	h := parse(t, "begin 3;aborted 3;begin 4")
	for _, row := range [][]int{{2, 0}, {0, 2}, {0, 0, 2}, {1, 0, -1}, {-1, 1, 0}, {1, 0, 2, 0}, {0, 1, math.MinInt}, {1, 1, math.MaxInt}} {
		wantKeeps(t, h, row, false, api.ErrNone)
	}
}

// P7.1: a place that is there twice, side by side or apart; rows longer than there are transactions.
func TestKeepsTwice(t *testing.T) {
	h := parse(t, "begin 1;begin 2;begin 3")
	wantKeeps(t, h, []int{0, 0}, false, api.OK)
	wantKeeps(t, h, []int{2, 1, 0}, true, api.OK)
	wantKeeps(t, h, []int{2, 1, 2}, false, api.OK)
	wantKeeps(t, h, []int{1, 2, 0, 1}, false, api.OK)
	wantKeeps(t, h, make([]int, 100000), false, api.OK)
	wantKeeps(t, h, append(make([]int, 100000), 3), false, api.ErrNone)
}

// P7.1: table.Table's errors go ahead of places', ErrArg ahead of ErrForm.
func TestErrors(t *testing.T) {
	var seven []api.Event
	for tx := range api.MaxTx + 1 {
		seven = append(seven, event(api.EBegin, tx))
	}
	wantDefined(t, seven[:api.MaxTx])
	wantError(t, seven, api.ErrArg)
	wantError(t, make([]api.Event, 60), api.ErrForm)
	wantError(t, make([]api.Event, 61), api.ErrArg)
	wantError(t, []api.Event{event(api.EBegun, 0)}, api.ErrForm)
	wantError(t, []api.Event{event(api.EBegin, 1), event(api.EAborted, 1), event(api.EBegin, 1)}, api.ErrForm)
	wantError(t, []api.Event{event(api.EBegin, 1), event(api.EAborted, 2)}, api.ErrForm)
	wantError(t, []api.Event{event(api.EBegin, -1)}, api.ErrArg)
	wantError(t, []api.Event{event(api.EBegin, api.MaxName+1)}, api.ErrArg)
	wantError(t, []api.Event{event(api.EKinds, 1)}, api.ErrArg)
	wantError(t, []api.Event{event(api.EBegun, 1), event(-1, 1)}, api.ErrArg)
	wantError(t, []api.Event{{Kind: api.EBegin, Val: 1}}, api.ErrArg)
}

// P7.1, P7.2: all ways in which up to five transactions begin and end, up to a length: what the words define, and what follows; of all rows whether they keep it.
func TestAllSpans(t *testing.T) {
	seen := 0
	spans(5, 9, func(h []api.Event) {
		seen++
		wantDefined(t, h)
		wantFollows(t, h)
	})
	spans(3, 6, func(h []api.Event) {
		before := defined(h)
		for _, row := range rows(-1, len(before), 4) {
			if slices.Contains(row, -1) || slices.Contains(row, len(before)) {
				wantKeeps(t, h, row, false, api.ErrNone)
			} else {
				wantKeeps(t, h, row, isDefinedRow(before, row), api.OK)
			}
		}
	})
	if seen < 500 {
		t.Error("rows of events:", seen)
	}
}

// P7.1, P7.2: all rows of two transactions' events, of all kinds, up to a length.
func TestAllKinds(t *testing.T) {
	seen := 0
	var grow func(h []api.Event, left int)
	grow = func(h []api.Event, left int) {
		seen++
		wantDefined(t, h)
		wantFollows(t, h)
		for _, tx := range []int{8, 3} {
			kinds, err := proper.Next(h, tx)
			if err != api.OK {
				t.Fatal(h, err)
			}
			for _, kind := range kinds {
				if left > 0 {
					grow(append(slices.Clone(h), event(kind, tx)), left-1)
				}
			}
		}
	}
	grow(nil, 6)
	if seen < 500 {
		t.Error("rows of events:", seen)
	}
}

// R1: an answer is the caller's own: what is written into it changes no other one.
func TestAfterIsNew(t *testing.T) {
	h := parse(t, "begin 1;aborted 1;begin 2")
	l, _ := order.After(h)
	clear(l)
	wantAfter(t, h, 2, 0)
}
