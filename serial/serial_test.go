package serial_test

import (
	"math"
	"slices"
	"strings"
	"testing"

	"recant/api"
	"recant/complete"
	"recant/legal"
	"recant/order"
	"recant/proper"
	"recant/serial"
	"recant/table"
	"recant/text"
)

// parse are a text's events; a ';' ends a line, too.
func parse(t *testing.T, s string) []api.Event {
	t.Helper()
	h, at, err := text.Parse(strings.ReplaceAll(s, ";", "\n"))
	if err != api.OK {
		t.Fatalf("Parse(%q): %d at %d", s, err, at)
	}
	return h
}

// event is an event without a variable and a value.
func event(kind, tx int) api.Event {
	return api.Event{Kind: kind, Tx: tx}
}

// read and write are Ops of a variable and a value.
func read(variable, val int) api.Op {
	return api.Op{Var: variable, Val: val}
}

func write(variable, val int) api.Op {
	return api.Op{Write: true, Var: variable, Val: val}
}

// together are the events of transactions that all begin first, then read and write so, one after the other, and then end with a kind; -1 is none.
func together(end int, each ...[]api.Op) []api.Event {
	var h []api.Event
	for name := range each {
		h = append(h, event(api.EBegin, name), event(api.EBegun, name))
	}
	for name, ops := range each {
		for _, op := range ops {
			if op.Write {
				h = append(h, api.Event{Kind: api.EWrite, Tx: name, Var: op.Var, Val: op.Val}, event(api.EWrote, name))
			} else {
				h = append(h, api.Event{Kind: api.ERead, Tx: name, Var: op.Var}, api.Event{Kind: api.EGot, Tx: name, Val: op.Val})
			}
		}
	}
	for name := range each {
		if end >= 0 {
			h = append(h, event(end, name))
		}
	}
	return h
}

// yes, no and unknown are what is found.
func yes(commits uint32, steps int, row ...int) api.Found {
	return api.Found{Verdict: api.VYes, Commits: commits, Row: row, Steps: steps}
}

func no(steps int) api.Found {
	return api.Found{Verdict: api.VNo, Steps: steps}
}

func unknown(steps int) api.Found {
	return api.Found{Verdict: api.VUnknown, Steps: steps}
}

// isSame tells whether two are the same, in all but what stands for no row.
func isSame(a, b api.Found) bool {
	return a.Verdict == b.Verdict && a.Commits == b.Commits && slices.Equal(a.Row, b.Row) && a.Steps == b.Steps
}

// wantRow holds Row to an answer and the events to what they were.
func wantRow(t *testing.T, h []api.Event, who, commits uint32, budget int, want api.Found, err api.Errno) {
	t.Helper()
	was := slices.Clone(h[:cap(h)])
	got, gotErr := serial.Row(h, who, commits, budget)
	if !isSame(got, want) || gotErr != err {
		t.Fatalf("Row(%v, %b, %b, %d) = %v, %d; want %v, %d", h, who, commits, budget, got, gotErr, want, err)
	}
	if !slices.Equal(h[:cap(h)], was) {
		t.Fatalf("Row(%v, %b, %b, %d) left %v", was, who, commits, budget, h[:cap(h)])
	}
}

// wantSearch holds Search so.
func wantSearch(t *testing.T, h []api.Event, budget int, want api.Found, err api.Errno) {
	t.Helper()
	was := slices.Clone(h[:cap(h)])
	got, gotErr := serial.Search(h, budget)
	if !isSame(got, want) || gotErr != err {
		t.Fatalf("Search(%v, %d) = %v, %d; want %v, %d", h, budget, got, gotErr, want, err)
	}
	if !slices.Equal(h[:cap(h)], was) {
		t.Fatalf("Search(%v, %d) left %v", was, budget, h[:cap(h)])
	}
}

// ofBudget is what is told, with a budget, of what would be found with any.
func ofBudget(whole api.Found, budget int) api.Found {
	if whole.Steps > budget {
		return unknown(budget)
	}
	return whole
}

// budgets are those at the edges of so many steps.
func budgets(steps int) []int {
	all := []int{0, 1, 2, steps / 2, steps - 1, steps, steps + 1, api.MaxBudget}
	return slices.DeleteFunc(all, func(budget int) bool { return budget < 0 })
}

// wantRowOf and wantSearchOf hold the calls to what is found with any budget, by budgets at its edges.
func wantRowOf(t *testing.T, h []api.Event, who, commits uint32, whole api.Found) {
	t.Helper()
	for _, budget := range budgets(whole.Steps) {
		wantRow(t, h, who, commits, budget, ofBudget(whole, budget), api.OK)
	}
}

func wantSearchOf(t *testing.T, h []api.Event, whole api.Found) {
	t.Helper()
	for _, budget := range budgets(whole.Steps) {
		wantSearch(t, h, budget, ofBudget(whole, budget), api.OK)
	}
}

// wantError holds both calls to one error, whatever else they are handed.
func wantError(t *testing.T, h []api.Event, err api.Errno) {
	t.Helper()
	for _, budget := range []int{0, 9, api.MaxBudget, -1, api.MaxBudget + 1} {
		wantSearch(t, h, budget, api.Found{}, err)
		for _, bits := range []uint32{0, 1, 64, math.MaxUint32} {
			wantRow(t, h, bits, 0, budget, api.Found{}, err)
			wantRow(t, h, 0, bits, budget, api.Found{}, err)
		}
	}
}

// rows are all rows that have places of these bits, each at most once, those first whose first other place is less, and ahead of all the empty one.
func rows(bits uint32) [][]int {
	all := [][]int{nil}
	for i := 0; i < len(all); i++ {
		for place := range 32 {
			if bits>>place%2 == 1 && !slices.Contains(all[i], place) {
				all = append(all, append(slices.Clone(all[i]), place))
			}
		}
	}
	slices.SortFunc(all, slices.Compare)
	return all
}

// sizeOf is how many bits are 1.
func sizeOf(bits uint32) int {
	size := 0
	for ; bits != 0; bits &= bits - 1 {
		size++
	}
	return size
}

// isLegal tells whether all of a row read what they may.
func isLegal(t *testing.T, h []api.Event, row []int, commits uint32) bool {
	t.Helper()
	n, err := legal.Legal(h, row, commits)
	if err != api.OK {
		t.Fatal(h, row, err)
	}
	return n == len(row)
}

// isFree tells whether none of who that is not in a row is before the transaction of a place.
func isFree(t *testing.T, h []api.Event, who uint32, row []int, place int) bool {
	t.Helper()
	for k := range 32 {
		if who>>k%2 == 0 || slices.Contains(row, k) {
			continue
		}
		before, err := order.Before(h, k, place)
		if err != api.OK {
			t.Fatal(h, k, place, err)
		}
		if before {
			return false
		}
	}
	return true
}

// isStep tells whether the search comes to a row, if it goes through all: from a row that is legal, by a place that is free, and so on, from the empty one.
func isStep(t *testing.T, h []api.Event, who, commits uint32, row []int) bool {
	t.Helper()
	for n, place := range row {
		if !isLegal(t, h, row[:n], commits) || !isFree(t, h, who, row[:n], place) {
			return false
		}
	}
	return len(row) > 0
}

// definedRow is what the search for a row finds with any budget, by the words: the steps are the rows that it comes to, those first whose first other place is less.
func definedRow(t *testing.T, h []api.Event, who, commits uint32) api.Found {
	t.Helper()
	steps := 0
	for _, row := range rows(who) {
		if isStep(t, h, who, commits, row) {
			steps++
		} else if len(row) > 0 {
			continue
		}
		if len(row) == sizeOf(who) && isLegal(t, h, row, commits) {
			return yes(commits, steps, row...)
		}
	}
	return no(steps)
}

// definedSearch is what the search for all finds with any budget, by the words.
func definedSearch(t *testing.T, h []api.Event) api.Found {
	t.Helper()
	choices, err := complete.Choices(h)
	if err != api.OK {
		t.Fatal(h, err)
	}
	steps := 0
	for _, commits := range choices {
		f := definedRow(t, h, allOf(t, h), commits)
		steps += f.Steps
		if f.Verdict == api.VYes {
			return yes(commits, steps, f.Row...)
		}
	}
	return no(steps)
}

// allOf are the bits of all transactions.
func allOf(t *testing.T, h []api.Event) uint32 {
	t.Helper()
	txns, err := table.Table(h)
	if err != api.OK {
		t.Fatal(h, err)
	}
	return 1<<len(txns) - 1
}

// explains tells whether a row explains some transactions, if some commit.
func explains(t *testing.T, h []api.Event, who, commits uint32, row []int) bool {
	t.Helper()
	var bits uint32
	for _, place := range row {
		bits |= 1 << place
	}
	keeps, err := order.Keeps(h, row)
	if err != api.OK {
		t.Fatal(h, row, err)
	}
	return bits == who && keeps && isLegal(t, h, row, commits)
}

// wantTrue holds what Row finds with a great budget to what follows: a row that explains, or no row does.
func wantTrue(t *testing.T, h []api.Event, who, commits uint32) api.Found {
	t.Helper()
	f, err := serial.Row(h, who, commits, 1956)
	if err != api.OK || f.Steps > 1956 {
		t.Fatalf("Row(%v, %b, %b, 1956) = %v, %d", h, who, commits, f, err)
	}
	explaining := slices.DeleteFunc(rows(who), func(row []int) bool { return !explains(t, h, who, commits, row) })
	switch f.Verdict {
	case api.VYes:
		if f.Commits != commits || !explains(t, h, who, commits, f.Row) {
			t.Fatalf("Row(%v, %b, %b, 1956) = %v, whose row does not explain", h, who, commits, f)
		}
	case api.VNo:
		if len(explaining) > 0 {
			t.Fatalf("Row(%v, %b, %b, 1956) = %v; but %v explains", h, who, commits, f, explaining[0])
		}
	default:
		t.Fatalf("Row(%v, %b, %b, 1956) = %v", h, who, commits, f)
	}
	return f
}

// skew are two that write each other's variables, and read the old values; the second one's commit is asked.
const skew = "begin 1;begun 1;begin 2;begun 2;read 1 0;got 1 0;read 2 1;got 2 0;write 1 1 5;wrote 1;write 2 0 6;wrote 2;commit 1;committed 1;commit 2"

// P12.2: the chapter's example: no events are explained, without a step, by the empty row.
func TestNoEvents(t *testing.T) {
	for _, h := range [][]api.Event{nil, {}} {
		for _, budget := range []int{0, 1, api.MaxBudget} {
			wantSearch(t, h, budget, yes(0, 0), api.OK)
			wantRow(t, h, 0, 0, budget, yes(0, 0), api.OK)
		}
	}
}

// P12.2: none of some transactions are explained by the empty row, without a step, whatever commits and whatever they read.
func TestNobody(t *testing.T) {
	h := together(api.ECommit, []api.Op{read(0, 5)}, []api.Op{write(0, 1)}, nil)
	for commits := range uint32(8) {
		wantRow(t, h, 0, commits, 0, yes(commits, 0), api.OK)
		wantRow(t, h, 0, commits, 7, yes(commits, 0), api.OK)
	}
}

// P12.2: one transaction is a step, whether it reads what it may or not.
func TestOne(t *testing.T) {
	for _, end := range []string{"", ";commit 4", ";commit 4;aborted 4", ";cancel 4", ";read 4 1;aborted 4"} {
		wantSearchOf(t, parse(t, "begin 4;begun 4;read 4 2;got 4 0"+end), yes(0, 1, 0))
		wantRowOf(t, parse(t, "begin 4;begun 4;read 4 2;got 4 3"+end), 1, 1, no(1))
	}
	committed := parse(t, "begin 4;begun 4;write 4 2 3;wrote 4;read 4 2;got 4 3;commit 4;committed 4")
	wantSearchOf(t, committed, yes(1, 1, 0))
	wantRowOf(t, committed, 1, 1, yes(1, 1, 0))
	wantRowOf(t, committed, 1, 0, yes(0, 1, 0))
	wantSearchOf(t, parse(t, "begin 4;begun 4;read 4 2;got 4 3"), no(1))
	wantSearchOf(t, parse(t, "begin 4;begun 4;read 4 2;got 4 3;commit 4"), no(2))
	wantSearchOf(t, parse(t, "begin 4"), yes(0, 1, 0))
}

// P12.2: two that read each other's old values: the second one is to be ahead of the first one's commit, and may not have committed.
func TestSkew(t *testing.T) {
	h := parse(t, skew)
	wantSearchOf(t, h, yes(1, 4, 1, 0))
	both := append(parse(t, skew), event(api.ECommitted, 2))
	wantSearchOf(t, both, no(4))
	wantRowOf(t, both, 3, 3, no(4))
	wantRowOf(t, both, 3, 2, yes(2, 2, 0, 1))
	wantRowOf(t, both, 3, 1, yes(1, 4, 1, 0))
	wantRowOf(t, both, 3, 0, yes(0, 2, 0, 1))
	wantRowOf(t, both, 2, 3, yes(3, 1, 1))
	wantRowOf(t, both, 1, 2, yes(2, 1, 0))
}

// P12.2: the row that is told is the first of all that explain, those first whose first other place is less.
func TestFirstRow(t *testing.T) {
	h := together(-1, nil, nil, nil, nil)
	wantSearchOf(t, h, yes(0, 4, 0, 1, 2, 3))
	wantRowOf(t, h, 10, 5, yes(5, 2, 1, 3))
	// The one at 0 reads what the one at 2 wrote, and the one at 1 may be anywhere.
	h = together(api.ECommit, []api.Op{read(3, 7)}, nil, []api.Op{write(3, 7)})
	for name := range 3 {
		h = append(h, event(api.ECommitted, name))
	}
	// Steps: 0; 1; 1 0; 1 2; 1 2 0.
	wantSearchOf(t, h, yes(7, 5, 1, 2, 0))
}

// P12.2: what is before another one is ahead of it, and is no step behind it, though that would be legal.
func TestOrder(t *testing.T) {
	h := parse(t, "begin 1;begun 1;read 1 0;got 1 5;commit 1;committed 1;begin 2;begun 2;write 2 0 5;wrote 2;commit 2;committed 2")
	wantSearchOf(t, h, no(1))
	wantRowOf(t, h, 3, 3, no(1))
	wantRowOf(t, h, 2, 3, yes(3, 1, 1))
	wantRowOf(t, h, 1, 3, no(1))
	wantSearchOf(t, parse(t, "begin 1;aborted 1;begin 2"), yes(0, 2, 0, 1))
	// The one at 1 is before the one at 2, and the one at 0 is beside both.
	h = parse(t, "begin 9;begin 3;aborted 3;begin 5;begun 5;begun 9;read 9 1;got 9 4;write 5 1 4;wrote 5;commit 5;committed 5")
	wantSearchOf(t, h, yes(4, 5, 1, 2, 0))
	wantRowOf(t, h, 5, 4, yes(4, 3, 2, 0))
	wantRowOf(t, h, 6, 4, yes(4, 2, 1, 2))
	wantRowOf(t, h, 7, 0, no(5))
}

// P12.2: those of who alone are asked for: one that is none of who holds back none that it is before, and leaves nothing, though it commits.
func TestWhoAlone(t *testing.T) {
	h := parse(t, "begin 1;begun 1;write 1 0 5;wrote 1;commit 1;committed 1;begin 2;begun 2;read 2 0;got 2 5;commit 2;committed 2;begin 3;begun 3;read 3 0;got 3 5")
	wantSearchOf(t, h, yes(3, 3, 0, 1, 2))
	wantRowOf(t, h, 4, 7, no(1))
	wantRowOf(t, h, 6, 7, no(1))
	wantRowOf(t, h, 5, 1, yes(1, 2, 0, 2))
	wantRowOf(t, h, 5, 4, no(2))
	wantRowOf(t, h, 2, 1, no(1))
	wantRowOf(t, h, 3, 3, yes(3, 2, 0, 1))
}

// P12.2: the choices are gone through as they rise, the first one that has a row is told, and the steps of those ahead of it are told with its own.
func TestChoices(t *testing.T) {
	h := together(api.ECommit, []api.Op{write(0, 5)}, []api.Op{write(0, 6)}, []api.Op{read(0, 6)})
	zero := definedRow(t, h, 7, 0)
	one := definedRow(t, h, 7, 1)
	two := definedRow(t, h, 7, 2)
	if zero.Verdict != api.VNo || one.Verdict != api.VNo || two.Verdict != api.VYes {
		t.Fatal(zero, one, two)
	}
	wantSearchOf(t, h, yes(2, zero.Steps+one.Steps+two.Steps, two.Row...))
	wantSearch(t, h, zero.Steps, unknown(zero.Steps), api.OK)
	wantSearch(t, h, zero.Steps+one.Steps, unknown(zero.Steps+one.Steps), api.OK)
	// A choice may be told whose row there is though a later one would take fewer steps.
	wantSearchOf(t, together(api.ECommit, nil, nil), yes(0, 2, 0, 1))
	wantSearchOf(t, together(api.ECommit, []api.Op{read(0, 5)}, []api.Op{write(0, 5)}), yes(2, 9, 1, 0))
}

// P12.2: what commits is told by the bits alone, in Row; and those of no choice may be asked for.
func TestCommits(t *testing.T) {
	for _, end := range []string{"", ";commit 1", ";commit 1;committed 1", ";commit 1;aborted 1"} {
		h := parse(t, "begin 2;begun 2;read 2 0;got 2 5;begin 1;begun 1;write 1 0 5;wrote 1"+end)
		wantRowOf(t, h, 3, 0, no(3))
		wantRowOf(t, h, 3, 1, no(3))
		wantRowOf(t, h, 3, 2, yes(2, 3, 1, 0))
		wantRowOf(t, h, 3, 3, yes(3, 3, 1, 0))
	}
}

// P12.1: the budget is one of 0 to 1000000, else ErrArg, that goes ahead of ErrNone.
func TestBudget(t *testing.T) {
	for _, h := range [][]api.Event{nil, parse(t, skew)} {
		for _, budget := range []int{-1, -2, math.MinInt, math.MinInt32, 1000001, math.MaxInt32, 1 << 32, math.MaxInt} {
			wantSearch(t, h, budget, api.Found{}, api.ErrArg)
			for _, bits := range []uint32{0, 1, 4, 64, math.MaxUint32} {
				wantRow(t, h, bits, 0, budget, api.Found{}, api.ErrArg)
				wantRow(t, h, 0, bits, budget, api.Found{}, api.ErrArg)
			}
		}
	}
	h := parse(t, skew)
	wantSearch(t, h, 0, unknown(0), api.OK)
	wantSearch(t, h, 1000000, yes(1, 4, 1, 0), api.OK)
	wantRow(t, h, 3, 3, 0, unknown(0), api.OK)
	wantRow(t, h, 3, 3, 1000000, no(4), api.OK)
}

// P12.1: a bit that is no transaction's, of who or of commits, is ErrNone, whatever else is asked.
func TestNoTransaction(t *testing.T) {
	six := together(-1, nil, nil, nil, nil, nil, nil)
	for n, h := range map[int][]api.Event{0: nil, 1: parse(t, "begin 9"), 2: parse(t, skew), 6: six} {
		for place := range 32 {
			if place < n {
				wantRow(t, h, 0, 1<<place, 0, yes(1<<place, 0), api.OK)
				wantRow(t, h, 1<<place, 0, 1, yes(0, 1, place), api.OK)
				continue
			}
			for _, more := range []uint32{0, 1, 3, math.MaxUint32} {
				wantRow(t, h, 1<<place|more, 0, 0, api.Found{}, api.ErrNone)
				wantRow(t, h, 0, 1<<place|more, 0, api.Found{}, api.ErrNone)
				wantRow(t, h, 1<<place, more, 9, api.Found{}, api.ErrNone)
				wantRow(t, h, more, 1<<place, 9, api.Found{}, api.ErrNone)
			}
		}
	}
}

// P12.1: table.Table's errors go ahead of all others.
func TestErrors(t *testing.T) {
	var seven []api.Event
	for tx := range api.MaxTx + 1 {
		seven = append(seven, event(api.EBegin, tx))
	}
	wantError(t, seven, api.ErrArg)
	wantError(t, make([]api.Event, api.MaxEvents), api.ErrForm)
	wantError(t, make([]api.Event, api.MaxEvents+1), api.ErrArg)
	wantError(t, []api.Event{event(api.EBegun, 0)}, api.ErrForm)
	wantError(t, parse(t, "begin 1;aborted 1;begin 1"), api.ErrForm)
	wantError(t, []api.Event{event(api.EBegin, -1)}, api.ErrArg)
	wantError(t, []api.Event{event(api.EBegun, 1), event(api.EKinds, 1)}, api.ErrArg)
	wantError(t, []api.Event{{Kind: api.ERead, Var: 8}}, api.ErrArg)
}

// P12.1: Like tells whether the verdict, what commits, the row and the steps are the same.
func TestLike(t *testing.T) {
	wantLike := func(a, b api.Found, want bool) {
		t.Helper()
		if serial.Like(a, b) != want || serial.Like(b, a) != want {
			t.Errorf("Like(%v, %v) is not %v", a, b, want)
		}
	}
	a := yes(3, 4, 1, 0)
	wantLike(a, yes(3, 4, 1, 0), true)
	wantLike(a, yes(2, 4, 1, 0), false)
	wantLike(a, yes(3, 5, 1, 0), false)
	for _, row := range [][]int{nil, {}, {1}, {0, 1}, {1, 1}, {1, 0, 0}, {1, 0, 2}} {
		wantLike(a, yes(3, 4, row...), false)
	}
	for _, verdict := range []int{api.VNo, api.VUnknown, -1, 3} {
		wantLike(a, api.Found{Verdict: verdict, Commits: 3, Row: []int{1, 0}, Steps: 4}, false)
	}
	wantLike(api.Found{}, api.Found{}, true)
	wantLike(api.Found{}, api.Found{Row: []int{}}, true)
	wantLike(api.Found{}, api.Found{Row: []int{0}}, false)
	wantLike(no(4), no(4), true)
	wantLike(no(4), unknown(4), false)
	wantLike(api.Found{Commits: math.MaxUint32}, api.Found{Commits: math.MaxUint32 >> 1}, false)
	wantLike(api.Found{Steps: math.MinInt}, api.Found{Steps: math.MaxInt}, false)
	row := []int{5, 6, 7}
	wantLike(yes(0, 0, row[:2]...), yes(0, 0, row...), false)
	if !slices.Equal(row, []int{5, 6, 7}) {
		t.Error(row)
	}
}

// P12.2, P12.3: a budget a step too small is unknown, one that is just enough is not, and a greater one changes nothing.
func TestEachBudget(t *testing.T) {
	for _, h := range [][]api.Event{
		parse(t, skew), append(parse(t, skew), event(api.ECommitted, 2)),
		together(api.ECommit, []api.Op{write(0, 5)}, []api.Op{write(0, 6)}, []api.Op{read(0, 6)}),
		together(api.ECommit, []api.Op{write(0, 5)}, []api.Op{write(0, 6)}, []api.Op{read(0, 7)}),
		together(-1, []api.Op{write(0, 5)}, []api.Op{read(0, 0)}, []api.Op{read(0, 5)}),
	} {
		all := allOf(t, h)
		search, row := definedSearch(t, h), definedRow(t, h, all, all)
		for budget := range search.Steps + 10 {
			wantSearch(t, h, budget, ofBudget(search, budget), api.OK)
			wantRow(t, h, all, all, budget, ofBudget(row, budget), api.OK)
		}
	}
}

// P12.3: six that are beside each other: of those of which the last reads what nobody wrote each row of others is gone through, for each choice; that is no more than what leaves nothing unknown.
func TestSix(t *testing.T) {
	five := []api.Op{write(0, 1)}
	h := together(api.ECommit, five, five, five, five, five, []api.Op{read(7, 9)})
	for _, commits := range []uint32{0, 1, 31, 63} {
		wantRowOf(t, h, 63, commits, no(651))
		wantRow(t, h, 63, commits, 1956, no(651), api.OK)
	}
	wantSearchOf(t, h, no(64*651))
	wantSearch(t, h, 125184, no(64*651), api.OK)
	// The last one reads what all others wrote, so that all of them are to commit.
	each := make([][]api.Op, 6)
	for i := range each {
		each[i] = []api.Op{write(i, 1)}
		if i == 5 {
			each[i] = []api.Op{read(0, 1), read(1, 1), read(2, 1), read(3, 1), read(4, 1), write(5, 1)}
		}
	}
	h = together(-1, each...)
	wantRowOf(t, h, 63, 31, yes(31, 6, 0, 1, 2, 3, 4, 5))
	wantRowOf(t, h, 63, 30, no(651))
	// Each reads what the one behind it wrote.
	for i := range each {
		each[i] = []api.Op{read(0, 5-i), write(0, 6-i)}
	}
	wantRowOf(t, together(-1, each...), 63, 63, yes(63, 21, 5, 4, 3, 2, 1, 0))
}

// P12.2: what is answered is new memory, and hangs on what is handed in alone.
func TestNewMemory(t *testing.T) {
	h := parse(t, skew)
	for range 3 {
		f, err := serial.Search(h, 4)
		if err != api.OK || !isSame(f, yes(1, 4, 1, 0)) {
			t.Fatal(f, err)
		}
		f.Row[0], f.Row[1] = 7, 7
		f, err = serial.Row(h, 3, 1, 4)
		if err != api.OK || !isSame(f, yes(1, 4, 1, 0)) {
			t.Fatal(f, err)
		}
		f.Row[0], f.Row[1] = 7, 7
		wantSearch(t, h, 3, unknown(3), api.OK)
	}
}

// wantAll holds Search and each Row to the words and to what follows, at budgets at their edges, and tells the verdict of Search.
func wantAll(t *testing.T, h []api.Event) int {
	t.Helper()
	search := definedSearch(t, h)
	wantSearchOf(t, h, search)
	all := allOf(t, h)
	for who := range all + 1 {
		for commits := range all + 1 {
			defined := definedRow(t, h, who, commits)
			wantRowOf(t, h, who, commits, defined)
			if f := wantTrue(t, h, who, commits); !isSame(f, defined) {
				t.Fatalf("Row(%v, %b, %b, 1956) = %v; want %v", h, who, commits, f, defined)
			}
		}
	}
	return search.Verdict
}

// walk are well-formed events of some transactions, that a number tells: each event is one that may be there, and values are few, so that reads are often of what was written.
func walk(t *testing.T, number uint32, events, transactions int) []api.Event {
	t.Helper()
	next := func(n int) int {
		number = number*1664525 + 1013904223
		return int(number >> 8 % uint32(n))
	}
	var h []api.Event
	for range events {
		tx := next(transactions)
		kinds, err := proper.Next(h, tx)
		if err != api.OK {
			t.Fatal(h, tx, err)
		}
		if len(kinds) == 0 {
			continue
		}
		e := event(kinds[next(len(kinds))], tx)
		if (e.Kind == api.EAborted || e.Kind == api.ECancel) && next(3) > 0 {
			e.Kind = kinds[0]
		}
		switch e.Kind {
		case api.ERead:
			e.Var = next(2)
		case api.EGot:
			e.Val = next(3)
		case api.EWrite:
			e.Var, e.Val = next(2), next(3)
		}
		h = append(h, e)
	}
	return h
}

// P12.2, P12.3: many events of up to three transactions, each with all of who and commits.
func TestWalks(t *testing.T) {
	verdicts := make([]int, 3)
	for number := range uint32(400) {
		h := walk(t, number, 8+int(number%30), 1+int(number%3))
		verdicts[wantAll(t, h)]++
	}
	if verdicts[api.VYes] < 60 || verdicts[api.VNo] < 60 {
		t.Error(verdicts)
	}
}

// P12.2, P12.3: some of up to five, with all of them, and with some.
func TestGreaterWalks(t *testing.T) {
	verdicts := make([]int, 3)
	for number := range uint32(120) {
		h := walk(t, number, 30+int(number%31), 4+int(number%2))
		search := definedSearch(t, h)
		wantSearchOf(t, h, search)
		verdicts[search.Verdict]++
		all := allOf(t, h)
		for _, bits := range []uint32{all, all & 21, all & 10} {
			wantRowOf(t, h, bits, all, definedRow(t, h, bits, all))
			wantTrue(t, h, bits, all&number)
		}
	}
	if verdicts[api.VYes] < 20 || verdicts[api.VNo] < 20 {
		t.Error(verdicts)
	}
}
