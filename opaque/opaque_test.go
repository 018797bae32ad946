package opaque_test

import (
	"math"
	"slices"
	"strings"
	"testing"

	"recant/api"
	"recant/complete"
	"recant/legal"
	"recant/opaque"
	"recant/order"
	"recant/proper"
	"recant/serial"
	"recant/table"
	"recant/text"
)

// enough is the budget with which nothing is unknown.
const enough = 125184

// parse are a text's events; a ';' ends a line, too.
func parse(t *testing.T, s string) []api.Event {
	t.Helper()
	h, at, err := text.Parse(strings.ReplaceAll(s, ";", "\n"))
	if err != api.OK {
		t.Fatalf("Parse(%q): %d at %d", s, err, at)
	}
	return h
}

// event is an event without a variable and a value.
func event(kind, tx int) api.Event {
	return api.Event{Kind: kind, Tx: tx}
}

// checked is what is found: a verdict, at which length, with so many steps, and the last row, with its choice.
func checked(verdict, at, steps int, commits uint32, row ...int) api.Checked {
	return api.Checked{Verdict: verdict, At: at, Commits: commits, Row: row, Steps: steps}
}

// isSame tells whether two are the same, in all but what stands for no row.
func isSame(a, b api.Checked) bool {
	return a.Verdict == b.Verdict && a.At == b.At && a.Commits == b.Commits && slices.Equal(a.Row, b.Row) && a.Steps == b.Steps
}

// want holds Check to an answer and the events to what they were.
func want(t *testing.T, h []api.Event, budget int, want api.Checked, err api.Errno) {
	t.Helper()
	was := slices.Clone(h[:cap(h)])
	got, gotErr := opaque.Check(h, budget)
	if !isSame(got, want) || gotErr != err {
		t.Fatalf("Check(%v, %d) = %v, %d; want %v, %d", h, budget, got, gotErr, want, err)
	}
	if !slices.Equal(h[:cap(h)], was) {
		t.Fatalf("Check(%v, %d) left %v", was, budget, h[:cap(h)])
	}
}

// wantText holds Check of a text's events, with a great budget, to an answer.
func wantText(t *testing.T, s string, c api.Checked) {
	t.Helper()
	want(t, parse(t, s), enough, c, api.OK)
	want(t, parse(t, s), api.MaxBudget, c, api.OK)
}

// wantError holds Check to one error, with a budget that may be.
func wantError(t *testing.T, h []api.Event, err api.Errno) {
	t.Helper()
	for _, budget := range []int{0, 9, api.MaxBudget} {
		want(t, h, budget, api.Checked{}, err)
	}
}

// definedCheck is what is found, by the words, of what each prefix's search tells.
func definedCheck(t *testing.T, h []api.Event, budget int) api.Checked {
	t.Helper()
	var found []api.Found
	steps := 0
	for n := range len(h) + 1 {
		f, err := serial.Search(slices.Clone(h[:n]), budget)
		if err != api.OK {
			t.Fatal(h[:n], budget, err)
		}
		steps += f.Steps
		if f.Verdict != api.VYes {
			// No events are explained without a step, so there is a prefix ahead.
			ahead := found[n-1]
			return checked(f.Verdict, n, steps, ahead.Commits, ahead.Row...)
		}
		found = append(found, f)
	}
	whole := found[len(h)]
	return checked(api.VYes, len(h), steps, whole.Commits, whole.Row...)
}

// greatest is the most steps that the search of one prefix takes, up to a length.
func greatest(t *testing.T, h []api.Event, length int) int {
	t.Helper()
	most := 0
	for n := range length + 1 {
		f, err := serial.Search(h[:n], api.MaxBudget)
		if err != api.OK {
			t.Fatal(h[:n], err)
		}
		most = max(most, f.Steps)
	}
	return most
}

// listed are all rows of n places, each there once.
func listed(n int) [][]int {
	all := [][]int{nil}
	for range n {
		var longer [][]int
		for _, row := range all {
			for place := range n {
				if !slices.Contains(row, place) {
					longer = append(longer, append(slices.Clone(row), place))
				}
			}
		}
		all = longer
	}
	return all
}

// explains tells whether a row of all transactions explains them, if some commit.
func explains(t *testing.T, h []api.Event, row []int, commits uint32) bool {
	t.Helper()
	n, err := legal.Legal(h, row, commits)
	if err != api.OK {
		t.Fatal(h, row, err)
	}
	if n < len(row) {
		return false
	}
	keeps, err := order.Keeps(h, row)
	if err != api.OK {
		t.Fatal(h, row, err)
	}
	return keeps
}

// isExplained tells whether a row explains all transactions, for some choice: without a search, by all rows and choices.
func isExplained(t *testing.T, h []api.Event) bool {
	t.Helper()
	choices, err := complete.Choices(h)
	if err != api.OK {
		t.Fatal(h, err)
	}
	txns, err := table.Table(h)
	if err != api.OK {
		t.Fatal(h, err)
	}
	for _, row := range listed(len(txns)) {
		for _, commits := range choices {
			if explains(t, h, row, commits) {
				return true
			}
		}
	}
	return false
}

// broken is the least length that is not explained; -1, if there is none.
func broken(t *testing.T, h []api.Event) int {
	t.Helper()
	for n := range len(h) + 1 {
		if !isExplained(t, h[:n]) {
			return n
		}
	}
	return -1
}

// Traces that several tests go by.
const (
	// One reads what nobody wrote.
	nobody = "begin 1;begun 1;read 1 0;got 1 3"
	// Two that read each other's old values, and both commit.
	skew = "begin 1;begun 1;begin 2;begun 2;read 1 0;got 1 0;read 2 1;got 2 0;write 1 1 5;wrote 1;write 2 0 6;wrote 2;commit 1;committed 1;commit 2;committed 2"
	// One reads what another one wrote whose commit is asked.
	pending = "begin 1;begun 1;write 1 0 7;wrote 1;commit 1;begin 2;begun 2;read 2 0;got 2 7"
	// One reads what another one writes and commits behind that: the whole is explained, the read's answer is not.
	early = "begin 1;begun 1;read 1 0;got 1 7;begin 2;begun 2;write 2 0 7;wrote 2;commit 2;committed 2"
	// Two aborted readers that saw two commits the one way round, and the other way round.
	rounds = "begin 1;begun 1;begin 2;begun 2;begin 3;begun 3;begin 4;begun 4;write 1 0 1;wrote 1;write 2 1 1;wrote 2;commit 1;commit 2;committed 1;committed 2;" +
		"read 3 0;got 3 1;read 3 1;got 3 0;read 4 0;got 4 0;read 4 1;got 4 1;cancel 3;aborted 3;cancel 4;aborted 4"
)

// P13.1: no events have one prefix, the empty one, that is explained without a step.
func TestNoEvents(t *testing.T) {
	for _, h := range [][]api.Event{nil, {}, parse(t, nobody)[:0]} {
		for _, budget := range []int{0, 1, enough, api.MaxBudget} {
			want(t, h, budget, checked(api.VYes, 0, 0, 0), api.OK)
		}
	}
}

// P13.1: the chapter's example: a read of what nobody wrote is told at its answer, whatever comes behind that.
func TestNobody(t *testing.T) {
	c := checked(api.VNo, 4, 4, 0, 0)
	for _, more := range []string{"", ";cancel 1", ";cancel 1;aborted 1", ";commit 1", ";commit 1;committed 1", ";read 1 0;got 1 0", ";begin 2", ";begin 2;begun 2;write 2 0 3;wrote 2;commit 2"} {
		wantText(t, nobody+more, c)
	}
	wantText(t, "begin 1;begun 1;read 1 0", checked(api.VYes, 3, 3, 0, 0))
	wantText(t, "begin 1;begun 1;read 1 0;got 1 0", checked(api.VYes, 4, 4, 0, 0))
}

// P13.1: two that read each other's old values are told at the second commit's answer; the row is that of the prefix ahead, and the steps are all searches'.
func TestSkew(t *testing.T) {
	h := parse(t, skew)
	want(t, h, enough, checked(api.VNo, 16, 36, 1, 1, 0), api.OK)
	want(t, h[:15], enough, checked(api.VYes, 15, 32, 1, 1, 0), api.OK)
	want(t, h[:14], enough, checked(api.VYes, 14, 28, 1, 1, 0), api.OK)
	want(t, h[:13], enough, checked(api.VYes, 13, 24, 0, 0, 1), api.OK)
	aborted := append(parse(t, skew)[:15], event(api.EAborted, 2))
	want(t, aborted, enough, checked(api.VYes, 16, 36, 1, 1, 0), api.OK)
}

// P13.1: what reads of one whose commit is asked is explained by that it commits; if it is aborted then, it is not.
func TestPending(t *testing.T) {
	wantText(t, pending, checked(api.VYes, 9, 16, 1, 0, 1))
	wantText(t, pending+";committed 1", checked(api.VYes, 10, 18, 1, 0, 1))
	wantText(t, pending+";aborted 1", checked(api.VNo, 10, 19, 1, 0, 1))
	wantText(t, strings.Replace(pending, "commit 1;", "", 1), checked(api.VNo, 8, 13, 0, 0, 1))
}

// P13.1: each prefix is to be explained, though the whole is.
func TestPrefixes(t *testing.T) {
	h := parse(t, early)
	whole, err := serial.Search(h, enough)
	if err != api.OK || whole.Verdict != api.VYes {
		t.Fatal(whole, err)
	}
	want(t, h, enough, checked(api.VNo, 4, 4, 0, 0), api.OK)
}

// P13.1: those that are aborted, or live, are to be explained, too.
func TestRounds(t *testing.T) {
	h := parse(t, rounds)
	c := definedCheck(t, h, enough)
	if c.Verdict != api.VNo || c.At != 24 || c.Commits != 3 || !slices.Equal(c.Row, []int{3, 0, 2, 1}) {
		t.Fatal(c)
	}
	want(t, h, enough, c, api.OK)
	// One that sees half of what another one commits, and is live.
	wantText(t, "begin 1;begun 1;read 1 0;got 1 0;begin 2;begun 2;write 2 0 1;wrote 2;write 2 1 1;wrote 2;commit 2;committed 2;read 1 1;got 1 1", checked(api.VNo, 14, 25, 2, 0, 1))
}

// P13.1: each prefix's search has the whole budget; the first one that is too long for it ends the check with what is unknown, with its length, and with the row ahead of it.
func TestBudgets(t *testing.T) {
	h := parse(t, skew)
	want(t, h, 0, checked(api.VUnknown, 1, 0, 0), api.OK)
	want(t, h, 1, checked(api.VUnknown, 3, 3, 0, 0), api.OK)
	want(t, h, 2, checked(api.VUnknown, 14, 26, 0, 0, 1), api.OK)
	want(t, h, 3, checked(api.VUnknown, 14, 27, 0, 0, 1), api.OK)
	want(t, h, 4, checked(api.VNo, 16, 36, 1, 1, 0), api.OK)
	want(t, h, 5, checked(api.VNo, 16, 36, 1, 1, 0), api.OK)
	// Behind what is unknown there may be a prefix that is known: it is not looked at.
	h = parse(t, pending+";committed 1")
	want(t, h, 4, checked(api.VUnknown, 9, 15, 0, 0, 1), api.OK)
	want(t, h, 5, checked(api.VYes, 10, 18, 1, 0, 1), api.OK)
	// The budget is looked at ahead of what would be told.
	want(t, parse(t, nobody), 0, checked(api.VUnknown, 1, 0, 0), api.OK)
	want(t, parse(t, nobody), 1, checked(api.VNo, 4, 4, 0, 0), api.OK)
}

// P13.1: the budget is one of 0 to 1000000, else ErrArg; events' errors go ahead of that.
func TestWrongBudgets(t *testing.T) {
	for _, budget := range []int{-1, -2, math.MinInt, math.MinInt32, 1000001, math.MaxInt32, 1 << 32, math.MaxInt} {
		for _, h := range [][]api.Event{nil, parse(t, nobody), parse(t, skew), parse(t, pending)} {
			want(t, h, budget, api.Checked{}, api.ErrArg)
		}
		want(t, []api.Event{event(api.EBegun, 0)}, budget, api.Checked{}, api.ErrForm)
		want(t, append(parse(t, nobody), event(api.EBegun, 1)), budget, api.Checked{}, api.ErrForm)
	}
	for _, budget := range []int{0, 1000000} {
		want(t, nil, budget, checked(api.VYes, 0, 0, 0), api.OK)
	}
}

// P13.1: the errors are those of all events: they are told though a prefix ahead of them is not explained, or unknown.
func TestErrors(t *testing.T) {
	wantError(t, []api.Event{event(api.EBegun, 0)}, api.ErrForm)
	wantError(t, parse(t, "begin 1;aborted 1;begin 1"), api.ErrForm)
	wantError(t, append(parse(t, nobody), event(api.EBegun, 1)), api.ErrForm)
	wantError(t, append(parse(t, nobody), event(api.EKinds, 1)), api.ErrArg)
	wantError(t, append(parse(t, nobody), event(api.EBegin, -1)), api.ErrArg)
	wantError(t, append(parse(t, nobody), api.Event{Kind: api.ERead, Tx: 1, Var: 8}), api.ErrArg)
	wantError(t, make([]api.Event, api.MaxEvents), api.ErrForm)
	wantError(t, make([]api.Event, api.MaxEvents+1), api.ErrArg)
	seven := parse(t, nobody)
	for tx := range api.MaxTx {
		seven = append(seven, event(api.EBegin, 10+tx))
	}
	wantError(t, seven, api.ErrArg)
	want(t, seven[:len(seven)-1], enough, checked(api.VNo, 4, 4, 0, 0), api.OK)
}

// P13.1: Like tells whether the verdict, the length, what commits, the row and the steps are the same.
func TestLike(t *testing.T) {
	wantLike := func(a, b api.Checked, want bool) {
		t.Helper()
		if opaque.Like(a, b) != want || opaque.Like(b, a) != want {
			t.Errorf("Like(%v, %v) is not %v", a, b, want)
		}
	}
	a := checked(api.VNo, 9, 4, 3, 1, 0)
	wantLike(a, checked(api.VNo, 9, 4, 3, 1, 0), true)
	for _, verdict := range []int{api.VYes, api.VUnknown, -1, 3} {
		wantLike(a, checked(verdict, 9, 4, 3, 1, 0), false)
	}
	wantLike(a, checked(api.VNo, 8, 4, 3, 1, 0), false)
	wantLike(a, checked(api.VNo, 9, 5, 3, 1, 0), false)
	wantLike(a, checked(api.VNo, 9, 4, 2, 1, 0), false)
	for _, row := range [][]int{nil, {}, {1}, {0, 1}, {1, 1}, {1, 0, 0}, {1, 0, 2}} {
		wantLike(a, checked(api.VNo, 9, 4, 3, row...), false)
	}
	wantLike(api.Checked{}, api.Checked{}, true)
	wantLike(api.Checked{}, api.Checked{Row: []int{}}, true)
	wantLike(api.Checked{}, api.Checked{Row: []int{0}}, false)
	wantLike(api.Checked{Commits: math.MaxUint32}, api.Checked{Commits: math.MaxUint32 >> 1}, false)
	wantLike(api.Checked{At: math.MinInt}, api.Checked{At: math.MaxInt}, false)
	wantLike(api.Checked{Steps: math.MinInt}, api.Checked{Steps: math.MaxInt}, false)
	row := []int{5, 6, 7}
	wantLike(checked(0, 0, 0, 0, row[:2]...), checked(0, 0, 0, 0, row...), false)
	if !slices.Equal(row, []int{5, 6, 7}) {
		t.Error(row)
	}
}

// P13.1: what is answered is new memory, and hangs on what is handed in alone.
func TestNewMemory(t *testing.T) {
	h := parse(t, skew)
	for range 3 {
		c, err := opaque.Check(h, 4)
		if err != api.OK || !isSame(c, checked(api.VNo, 16, 36, 1, 1, 0)) {
			t.Fatal(c, err)
		}
		c.Row[0], c.Row[1] = 7, 7
		want(t, h, 3, checked(api.VUnknown, 14, 27, 0, 0, 1), api.OK)
		want(t, h[:15:15], 4, checked(api.VYes, 15, 32, 1, 1, 0), api.OK)
	}
}

// P13.1: the limits: 60 events, and six transactions.
func TestLimits(t *testing.T) {
	s := "begin 1;begun 1"
	for range 29 {
		s += ";read 1 7;got 1 0"
	}
	wantText(t, s, checked(api.VYes, 60, 60, 0, 0))
	wantText(t, strings.TrimSuffix(s, "0")+"1", checked(api.VNo, 60, 60, 0, 0))
}

// P13.2: six of which five asked to commit, and the last reads what nobody wrote: all rows of the others are gone through, for each choice, and nothing is unknown.
func TestSix(t *testing.T) {
	var h []api.Event
	for tx := range 6 {
		h = append(h, event(api.EBegin, tx), event(api.EBegun, tx))
	}
	for tx := range 5 {
		h = append(h, api.Event{Kind: api.EWrite, Tx: tx, Val: 1}, event(api.EWrote, tx))
	}
	for tx := range 5 {
		h = append(h, event(api.ECommit, tx))
	}
	h = append(h, api.Event{Kind: api.ERead, Tx: 5}, api.Event{Kind: api.EGot, Tx: 5, Val: 9})
	c := checked(api.VNo, 29, 42+16*6+32*651, 0, 0, 1, 2, 3, 4, 5)
	want(t, h, enough, c, api.OK)
	want(t, append(h, event(api.ECancel, 5)), enough, c, api.OK)
	want(t, h, 32*651, c, api.OK)
	want(t, h, 32*651-1, checked(api.VUnknown, 29, c.Steps-1, 0, 0, 1, 2, 3, 4, 5), api.OK)
}

// walk are well-formed events of some transactions, that a number tells: each event is one that may be there, and values are few, so that reads are often of what was written.
func walk(t *testing.T, number uint32, events, transactions int) []api.Event {
	t.Helper()
	next := func(n int) int {
		number = number*1664525 + 1013904223
		return int(number >> 8 % uint32(n))
	}
	var h []api.Event
	for range events {
		tx := next(transactions)
		kinds, err := proper.Next(h, tx)
		if err != api.OK {
			t.Fatal(h, tx, err)
		}
		if len(kinds) == 0 {
			continue
		}
		e := event(kinds[next(len(kinds))], tx)
		if (e.Kind == api.EAborted || e.Kind == api.ECancel) && next(3) > 0 {
			e.Kind = kinds[0]
		}
		switch e.Kind {
		case api.ERead:
			e.Var = next(2)
		case api.EGot:
			e.Val = next(4) / 2
		case api.EWrite:
			e.Var, e.Val = next(2), 1+next(2)
		}
		h = append(h, e)
	}
	return h
}

// wantAll holds Check to the words, at budgets at the edges, and to what follows, and tells its verdict.
func wantAll(t *testing.T, h []api.Event) int {
	t.Helper()
	c := definedCheck(t, h, enough)
	want(t, h, enough, c, api.OK)
	want(t, h, api.MaxBudget, c, api.OK)
	most := greatest(t, h, c.At)
	want(t, h, most, c, api.OK)
	for _, budget := range []int{0, 1, most / 2, most - 1, c.Steps} {
		if budget >= 0 {
			want(t, h, budget, definedCheck(t, h, budget), api.OK)
		}
	}
	wantTrue(t, h, c)
	return c.Verdict
}

// wantTrue holds what is found to what it says: VNo is at the least length that is not explained, and comes with a row that explains the one ahead of it; VYes comes with a row that explains all.
func wantTrue(t *testing.T, h []api.Event, c api.Checked) {
	t.Helper()
	last := len(h)
	if at := broken(t, h); at >= 0 {
		last = at - 1
	}
	verdict, at := api.VYes, last
	if last < len(h) {
		verdict, at = api.VNo, last+1
	}
	if c.Verdict != verdict || c.At != at {
		t.Fatalf("Check(%v, %d) = %v; all up to %d are explained", h, enough, c, last)
	}
	choices, err := complete.Choices(h[:last])
	if err != api.OK || !slices.Contains(choices, c.Commits) {
		t.Fatal(h[:last], c, err)
	}
	if !explains(t, h[:last], c.Row, c.Commits) {
		t.Fatal(h[:last], c)
	}
}

// wantGoOn holds Check to that it tells the same of a prefix that is not opaque and of what is behind it, and that each one ahead of it is opaque.
func wantGoOn(t *testing.T, h []api.Event) {
	t.Helper()
	whole, err := opaque.Check(h, enough)
	if err != api.OK {
		t.Fatal(h, err)
	}
	for n := range len(h) + 1 {
		c, err := opaque.Check(h[:n], enough)
		if err != api.OK {
			t.Fatal(h[:n], err)
		}
		isBroken := whole.Verdict == api.VNo && n >= whole.At
		if isBroken && !isSame(c, whole) || !isBroken && (c.Verdict != api.VYes || c.At != n) {
			t.Fatalf("Check(%v, %d) = %v; that of %v is %v", h[:n], enough, c, h, whole)
		}
	}
}

// P13.1, P13.2: many events of up to three transactions.
func TestWalks(t *testing.T) {
	verdicts := make([]int, 3)
	for number := range uint32(300) {
		h := walk(t, number, 8+int(number%30), 1+int(number%3))
		verdicts[wantAll(t, h)]++
		wantGoOn(t, h)
	}
	if verdicts[api.VYes] < 60 || verdicts[api.VNo] < 60 {
		t.Error(verdicts)
	}
}

// P13.1, P13.2: some of up to five.
func TestGreaterWalks(t *testing.T) {
	verdicts := make([]int, 3)
	for number := range uint32(60) {
		h := walk(t, number, 20+int(number%31), 4+int(number%2))
		verdicts[wantAll(t, h)]++
	}
	if verdicts[api.VYes] < 10 || verdicts[api.VNo] < 10 {
		t.Error(verdicts)
	}
}
