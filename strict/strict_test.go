package strict_test

import (
	"math"
	"slices"
	"strings"
	"testing"

	"recant/api"
	"recant/complete"
	"recant/legal"
	"recant/opaque"
	"recant/order"
	"recant/proper"
	"recant/serial"
	"recant/strict"
	"recant/table"
	"recant/text"
)

// enough is the budget with which nothing is unknown.
const enough = 125184

// parse are a text's events; a ';' ends a line, too.
func parse(t *testing.T, s string) []api.Event {
	t.Helper()
	h, at, err := text.Parse(strings.ReplaceAll(s, ";", "\n"))
	if err != api.OK {
		t.Fatalf("Parse(%q): %d at %d", s, err, at)
	}
	return h
}

// event is an event without a variable and a value.
func event(kind, tx int) api.Event {
	return api.Event{Kind: kind, Tx: tx}
}

// yes, no and unknown are what is found.
func yes(commits uint32, steps int, row ...int) api.Found {
	return api.Found{Verdict: api.VYes, Commits: commits, Row: row, Steps: steps}
}

func no(steps int) api.Found {
	return api.Found{Verdict: api.VNo, Steps: steps}
}

func unknown(steps int) api.Found {
	return api.Found{Verdict: api.VUnknown, Steps: steps}
}

// isSame tells whether two are the same, in all but what stands for no row.
func isSame(a, b api.Found) bool {
	return a.Verdict == b.Verdict && a.Commits == b.Commits && slices.Equal(a.Row, b.Row) && a.Steps == b.Steps
}

// want holds Check to an answer and the events to what they were.
func want(t *testing.T, h []api.Event, budget int, want api.Found, err api.Errno) {
	t.Helper()
	was := slices.Clone(h[:cap(h)])
	got, gotErr := strict.Check(h, budget)
	if !isSame(got, want) || gotErr != err {
		t.Fatalf("Check(%v, %d) = %v, %d; want %v, %d", h, budget, got, gotErr, want, err)
	}
	if !slices.Equal(h[:cap(h)], was) {
		t.Fatalf("Check(%v, %d) left %v", was, budget, h[:cap(h)])
	}
}

// wantEach holds Check of events to an answer with each budget that has its steps, and to what is unknown with each that has less.
func wantEach(t *testing.T, h []api.Event, f api.Found) {
	t.Helper()
	for _, budget := range []int{f.Steps, f.Steps + 1, enough, api.MaxBudget} {
		want(t, h, budget, f, api.OK)
	}
	for budget := range min(f.Steps, 10) {
		want(t, h, budget, unknown(budget), api.OK)
		want(t, h, f.Steps-1-budget, unknown(f.Steps-1-budget), api.OK)
	}
}

// wantText holds Check of a text's events so.
func wantText(t *testing.T, s string, f api.Found) {
	t.Helper()
	wantEach(t, parse(t, s), f)
}

// wantError holds Check to one error, with a budget that may be.
func wantError(t *testing.T, h []api.Event, err api.Errno) {
	t.Helper()
	for _, budget := range []int{0, 9, api.MaxBudget} {
		want(t, h, budget, api.Found{}, err)
	}
}

// choicesOf are the choices of events.
func choicesOf(t *testing.T, h []api.Event) []uint32 {
	t.Helper()
	choices, err := complete.Choices(h)
	if err != api.OK {
		t.Fatal(h, err)
	}
	return choices
}

// tableOf are the transactions of events.
func tableOf(t *testing.T, h []api.Event) []api.Txn {
	t.Helper()
	txns, err := table.Table(h)
	if err != api.OK {
		t.Fatal(h, err)
	}
	return txns
}

// check is what is found with a budget that is great enough.
func check(t *testing.T, h []api.Event) api.Found {
	t.Helper()
	f, err := strict.Check(h, enough)
	if err != api.OK {
		t.Fatal(h, err)
	}
	return f
}

// Traces that several tests go by.
const (
	// One reads what nobody wrote.
	nobody = "begin 1;begun 1;read 1 0;got 1 3"
	// One that asked to commit wrote what another one reads, that commits.
	pending = "begin 1;begun 1;write 1 0 7;wrote 1;commit 1;begin 2;begun 2;read 2 0;got 2 7;commit 2;committed 2"
	// Two that read each other's old values, and both commit.
	skew = "begin 1;begun 1;begin 2;begun 2;read 1 0;got 1 0;read 2 1;got 2 0;write 1 1 5;wrote 1;write 2 0 6;wrote 2;commit 1;committed 1;commit 2;committed 2"
	// Two aborted readers that saw two commits the one way round, and the other way round.
	rounds = "begin 1;begun 1;begin 2;begun 2;begin 3;begun 3;begin 4;begun 4;write 1 0 1;wrote 1;write 2 1 1;wrote 2;commit 1;commit 2;committed 1;committed 2;" +
		"read 3 0;got 3 1;read 3 1;got 3 0;read 4 0;got 4 0;read 4 1;got 4 1;cancel 3;aborted 3;cancel 4;aborted 4"
)

// P14.1: of no events, and of those of which none is to commit, the empty row is found without a step.
func TestNobodyCommits(t *testing.T) {
	want(t, nil, 0, yes(0, 0), api.OK)
	want(t, []api.Event{}, 0, yes(0, 0), api.OK)
	for _, s := range []string{"begin 1", "begin 1;aborted 1", "begin 1;begun 1;begin 2;aborted 2", "begin 1;begun 1;read 1 0;aborted 1;begin 2;begun 2;write 2 0 1"} {
		wantText(t, s, yes(0, 0))
	}
}

// P14.1: the chapter's example: an aborted one that read what nobody wrote does not count; nor does a live one, and one that asked to commit need not commit. Once it is committed, it counts.
func TestNobody(t *testing.T) {
	for _, more := range []string{"", ";cancel 1", ";cancel 1;aborted 1", ";commit 1", ";commit 1;aborted 1", ";read 1 0;aborted 1"} {
		wantText(t, nobody+more, yes(0, 0))
	}
	wantText(t, nobody+";commit 1;committed 1", no(1))
	wantText(t, nobody+";begin 2;begun 2;write 2 0 3;wrote 2;commit 2;committed 2", yes(2, 1, 1))
	wantText(t, nobody+";begin 2;begun 2;write 2 0 3;wrote 2;commit 2;committed 2;commit 1;committed 1", yes(3, 3, 1, 0))
}

// P14.1: the choices are gone through in order, and steps are all choices' together.
func TestChoices(t *testing.T) {
	wantText(t, pending, yes(3, 3, 0, 1))
	wantText(t, strings.Replace(pending, "got 2 7", "got 2 0", 1), yes(2, 1, 1))
	wantText(t, strings.Replace(pending, "got 2 7", "got 2 8", 1), no(4))
	// Two that asked to commit wrote the same: the first of them is tried first.
	two := "begin 1;begun 1;write 1 0 7;wrote 1;begin 2;begun 2;write 2 0 7;wrote 2;commit 1;commit 2;begin 3;begun 3;read 3 0;got 3 7;commit 3;committed 3"
	wantText(t, two, yes(5, 3, 0, 2))
	// If the first one did not write that, the second one is tried alone, and with its place.
	wantText(t, strings.Replace(two, "write 1 0 7", "write 1 0 8", 1), yes(6, 6, 1, 2))
	// If both are to be read, all ways of fewer are tried first.
	both := "begin 1;begun 1;write 1 0 7;wrote 1;begin 2;begun 2;write 2 1 8;wrote 2;commit 1;commit 2;begin 3;begun 3;read 3 0;got 3 7;read 3 1;got 3 8;commit 3;committed 3"
	wantText(t, both, yes(7, 10, 0, 1, 2))
}

// P14.1: all of those that commit are to be in the row, and of these alone what is committed is read.
func TestWhoCommits(t *testing.T) {
	committed := pending + ";committed 1"
	wantText(t, committed, yes(3, 2, 0, 1))
	wantText(t, strings.Replace(committed, "got 2 7", "got 2 0", 1), yes(3, 4, 1, 0))
	// What an aborted one wrote, or one that did not ask to commit, is nobody's.
	wantText(t, pending+";aborted 1", no(1))
	wantText(t, strings.Replace(pending, "commit 1;", "", 1), no(1))
	wantText(t, strings.Replace(pending, "commit 1;", "cancel 1;aborted 1;", 1), no(1))
	// One that was aborted stands between two places of the row.
	wantText(t, "begin 1;begun 1;write 1 0 7;wrote 1;begin 3;aborted 3;begin 2;begun 2;read 2 0;got 2 7;commit 1;committed 1;commit 2;committed 2", yes(5, 2, 0, 2))
}

// P14.1: the order is kept: what was committed ahead of another's begin is seen.
func TestOrder(t *testing.T) {
	behind := "begin 1;begun 1;write 1 0 7;wrote 1;commit 1;committed 1;begin 2;begun 2;read 2 0;got 2 %;commit 2;committed 2"
	wantText(t, strings.Replace(behind, "%", "7", 1), yes(3, 2, 0, 1))
	wantText(t, strings.Replace(behind, "%", "0", 1), no(2))
	// What asks to commit behind that is seen by one that was not ended then, only.
	wantText(t, "begin 1;begun 1;read 1 0;got 1 7;commit 1;committed 1;begin 2;begun 2;write 2 0 7;wrote 2;commit 2", no(2))
	wantText(t, "begin 1;begun 1;begin 2;begun 2;write 2 0 7;wrote 2;commit 2;read 1 0;got 1 7;commit 1;committed 1", yes(3, 4, 1, 0))
}

// P14.1: two that read each other's old values are none behind the other, once both are committed; two aborted readers do not count.
func TestSkew(t *testing.T) {
	wantText(t, skew, no(4))
	wantEach(t, parse(t, skew)[:15], yes(1, 1, 0))
	wantEach(t, append(parse(t, skew)[:15], event(api.EAborted, 2)), yes(1, 1, 0))
	wantText(t, rounds, yes(3, 2, 0, 1))
}

// P14.1: the prefixes need not be explained.
func TestPrefixes(t *testing.T) {
	h := parse(t, nobody+";begin 2;begun 2;write 2 0 3;wrote 2;commit 2;committed 2;commit 1;committed 1")
	c, err := opaque.Check(h, enough)
	if err != api.OK || c.Verdict != api.VNo {
		t.Fatal(c, err)
	}
	wantEach(t, h, yes(3, 3, 1, 0))
	wantEach(t, append(parse(t, nobody+";commit 1;committed 1"), h[4:10]...), no(1))
}

// P14.1: a choice has what the choices ahead of it left of the budget; what is unknown has no row and no choice.
func TestBudgets(t *testing.T) {
	h := parse(t, pending)
	want(t, h, 0, unknown(0), api.OK)
	want(t, h, 1, unknown(1), api.OK)
	want(t, h, 2, unknown(2), api.OK)
	want(t, h, 3, yes(3, 3, 0, 1), api.OK)
	// A later choice may take fewer steps than the one that is cut off: it is not looked at.
	long := parse(t, "begin 1;begun 1;begin 2;begun 2;begin 3;begun 3;begin 4;begun 4;write 1 0 7;wrote 1;commit 1;read 4 0;got 4 7;commit 2;committed 2;commit 3;committed 3;commit 4;committed 4")
	want(t, long, enough, yes(15, 9+4, 0, 1, 2, 3), api.OK)
	for budget := range 9 + 4 {
		want(t, long, budget, unknown(budget), api.OK)
	}
	want(t, parse(t, nobody+";commit 1;committed 1"), 0, unknown(0), api.OK)
}

// P14.1: the budget is one of 0 to 1000000, else ErrArg, also where no step is taken; events' errors go ahead of that.
func TestWrongBudgets(t *testing.T) {
	for _, budget := range []int{-1, -2, math.MinInt, math.MinInt32, 1000001, math.MaxInt32, 1 << 32, math.MaxInt} {
		for _, h := range [][]api.Event{nil, parse(t, nobody), parse(t, skew), parse(t, pending)} {
			want(t, h, budget, api.Found{}, api.ErrArg)
		}
		want(t, []api.Event{event(api.EBegun, 0)}, budget, api.Found{}, api.ErrForm)
		want(t, append(parse(t, pending), event(api.EBegun, 2)), budget, api.Found{}, api.ErrForm)
	}
	for _, budget := range []int{0, 1000000} {
		want(t, nil, budget, yes(0, 0), api.OK)
	}
}

// P14.1: the errors are those of serial.Search.
func TestErrors(t *testing.T) {
	wantError(t, []api.Event{event(api.EBegun, 0)}, api.ErrForm)
	wantError(t, parse(t, "begin 1;aborted 1;begin 1"), api.ErrForm)
	wantError(t, append(parse(t, pending), event(api.EBegun, 2)), api.ErrForm)
	wantError(t, append(parse(t, skew), event(api.EBegun, 3)), api.ErrForm)
	wantError(t, append(parse(t, nobody), event(api.EKinds, 1)), api.ErrArg)
	wantError(t, append(parse(t, nobody), event(api.EBegin, -1)), api.ErrArg)
	wantError(t, append(parse(t, nobody), api.Event{Kind: api.ERead, Tx: 1, Var: 8}), api.ErrArg)
	wantError(t, make([]api.Event, api.MaxEvents), api.ErrForm)
	wantError(t, make([]api.Event, api.MaxEvents+1), api.ErrArg)
	seven := parse(t, nobody)
	for tx := range api.MaxTx {
		seven = append(seven, event(api.EBegin, 10+tx))
	}
	wantError(t, seven, api.ErrArg)
	want(t, seven[:len(seven)-1], 0, yes(0, 0), api.OK)
	for _, h := range [][]api.Event{nil, parse(t, nobody), parse(t, skew)[1:], seven, make([]api.Event, api.MaxEvents+1)} {
		for _, budget := range []int{-1, 0, 1, enough, api.MaxBudget, api.MaxBudget + 1} {
			_, searched := serial.Search(h, budget)
			if _, err := strict.Check(h, budget); err != searched {
				t.Errorf("Check(%v, %d): %d; Search: %d", h, budget, err, searched)
			}
		}
	}
}

// P14.1: what is answered is new memory, and hangs on what is handed in alone.
func TestNewMemory(t *testing.T) {
	h := parse(t, pending)
	for range 3 {
		f := check(t, h)
		if !isSame(f, yes(3, 3, 0, 1)) {
			t.Fatal(f)
		}
		f.Row[0], f.Row[1] = 7, 7
		want(t, h, 2, unknown(2), api.OK)
		want(t, h[:5:5], 3, yes(0, 0), api.OK)
	}
}

// P14.1: the limits: 60 events.
func TestLimits(t *testing.T) {
	s := "begin 1;begun 1"
	for range 27 {
		s += ";read 1 7;got 1 0"
	}
	wantText(t, s+";read 1 7;got 1 0;commit 1;committed 1", yes(1, 1, 0))
	wantText(t, s+";read 1 7;got 1 1;commit 1;committed 1", no(1))
	wantText(t, s+";read 1 7;got 1 1;commit 1;aborted 1", yes(0, 0))
	wantError(t, append(parse(t, s+";read 1 7;got 1 0;commit 1;committed 1"), event(api.EBegin, 2)), api.ErrArg)
}

// P14.1: six of which five asked to commit, and the last reads what nobody wrote and commits: all rows of each choice's are gone through, and none more.
func TestSix(t *testing.T) {
	var h []api.Event
	for tx := range 6 {
		h = append(h, event(api.EBegin, tx), event(api.EBegun, tx))
	}
	for tx := range 5 {
		h = append(h, api.Event{Kind: api.EWrite, Tx: tx, Val: 1}, event(api.EWrote, tx), event(api.ECommit, tx))
	}
	h = append(h, api.Event{Kind: api.ERead, Tx: 5}, api.Event{Kind: api.EGot, Tx: 5, Val: 9}, event(api.ECommit, 5), event(api.ECommitted, 5))
	// Of n writers there are so many rows of some of them, and the reader is tried behind each one, and behind none.
	wantEach(t, h, no(1*1+5*3+10*9+10*31+5*129+651))
	for tx := range 5 {
		h = append(h, event(api.ECommitted, tx))
	}
	wantEach(t, h, no(651))
}

// seen is what a transaction that asked to read last reads, if it reads what it wrote last, or what others asked to commit last.
func seen(h []api.Event, tx int) int {
	var memory [api.MaxVar + 1]int
	own := map[int]map[int]int{}
	variable := 0
	for _, e := range h {
		switch e.Kind {
		case api.EBegin:
			own[e.Tx] = map[int]int{}
		case api.EWrite:
			own[e.Tx][e.Var] = e.Val
		case api.ECommit:
			for variable, val := range own[e.Tx] {
				memory[variable] = val
			}
		case api.ERead:
			if e.Tx == tx {
				variable = e.Var
			}
		}
	}
	if val, ok := own[tx][variable]; ok {
		return val
	}
	return memory[variable]
}

// likely is one of the kinds that may come next of a transaction: it reads or writes twice, then it asks to commit; seldom it is cancelled or aborted.
func likely(h []api.Event, tx int, kinds []int, next func(int) int) int {
	if len(kinds) == 1 {
		return kinds[0]
	}
	if next(16) == 0 {
		// The last one of several is what aborts.
		return kinds[len(kinds)-1]
	}
	if kinds[0] != api.ERead {
		return kinds[0]
	}
	asked := 0
	for _, e := range h {
		if e.Tx == tx && (e.Kind == api.ERead || e.Kind == api.EWrite) {
			asked++
		}
	}
	if asked == 2 {
		return api.ECommit
	}
	return []int{api.ERead, api.EWrite}[next(2)]
}

// walk are well-formed events of some transactions, that a number tells: each event is one that may be there, and most reads are of what was asked to commit last.
func walk(t *testing.T, number uint32, events, transactions int) []api.Event {
	t.Helper()
	next := func(n int) int {
		number = number*1664525 + 1013904223
		return int(number >> 16 % uint32(n))
	}
	var h []api.Event
	for range events {
		tx := next(transactions)
		kinds, err := proper.Next(h, tx)
		if err != api.OK {
			t.Fatal(h, tx, err)
		}
		if len(kinds) == 0 {
			continue
		}
		e := event(likely(h, tx, kinds, next), tx)
		switch e.Kind {
		case api.ERead:
			e.Var = next(2)
		case api.EGot:
			e.Val = seen(h, tx)
			if next(8) == 0 {
				e.Val = next(3)
			}
		case api.EWrite:
			e.Var, e.Val = next(2), 1+next(3)
		}
		h = append(h, e)
	}
	return h
}

// defined is what is found with a budget, by what the row of each choice is found with as many steps as it may take: with less than the steps of all up to the one that is found it is unknown.
func defined(t *testing.T, h []api.Event, budget int) api.Found {
	t.Helper()
	steps := 0
	for _, commits := range choicesOf(t, h) {
		f, err := serial.Row(h, commits, commits, api.MaxBudget)
		if err != api.OK || f.Verdict == api.VUnknown {
			t.Fatal(h, commits, f, err)
		}
		steps += f.Steps
		if steps > budget {
			return unknown(budget)
		}
		if f.Verdict == api.VYes {
			return yes(f.Commits, steps, f.Row...)
		}
	}
	return no(steps)
}

// listed are all rows of each of some places, in order.
func listed(who uint32) [][]int {
	if who == 0 {
		return [][]int{nil}
	}
	var all [][]int
	for place := range 32 {
		if who>>place&1 == 0 {
			continue
		}
		for _, row := range listed(who &^ (1 << place)) {
			all = append(all, append([]int{place}, row...))
		}
	}
	return all
}

// explains tells whether a row explains its transactions, if some commit.
func explains(t *testing.T, h []api.Event, row []int, commits uint32) bool {
	t.Helper()
	n, err := legal.Legal(h, row, commits)
	if err != api.OK {
		t.Fatal(h, row, err)
	}
	keeps, err := order.Keeps(h, row)
	if err != api.OK {
		t.Fatal(h, row, err)
	}
	return keeps && n == len(row)
}

// first is the first choice that has a row that explains it, and the first one of these; false, if there is none: without a search, by all choices and rows.
func first(t *testing.T, h []api.Event) (uint32, []int, bool) {
	t.Helper()
	for _, commits := range choicesOf(t, h) {
		for _, row := range listed(commits) {
			if explains(t, h, row, commits) {
				return commits, row, true
			}
		}
	}
	return 0, nil, false
}

// wantAll holds Check to the words, at budgets at the edges, and tells what is found.
func wantAll(t *testing.T, h []api.Event) api.Found {
	t.Helper()
	f := defined(t, h, enough)
	wantEach(t, h, f)
	for _, budget := range []int{0, 1, f.Steps / 2} {
		want(t, h, budget, defined(t, h, budget), api.OK)
	}
	commits, row, ok := first(t, h)
	if ok != (f.Verdict == api.VYes) || commits != f.Commits || !slices.Equal(row, f.Row) {
		t.Fatalf("Check(%v, %d) = %v; the first row is %v, of %d: %v", h, enough, f, row, commits, ok)
	}
	return f
}

// wantWeaker holds Check to that what is explained is strictly serializable, and tells whether it is explained.
func wantWeaker(t *testing.T, h []api.Event) bool {
	t.Helper()
	explained, err := serial.Search(h, enough)
	if err != api.OK {
		t.Fatal(h, err)
	}
	if explained.Verdict == api.VYes && check(t, h).Verdict != api.VYes {
		t.Fatalf("Check(%v, %d) = %v; Search = %v", h, enough, check(t, h), explained)
	}
	return explained.Verdict == api.VYes
}

// wantWithout holds Check to that it tells of events without their aborted and live transactions what it tells with them, but for the places.
func wantWithout(t *testing.T, h []api.Event) {
	t.Helper()
	left := map[int]int{}
	placeLeft := map[int]int{}
	for place, txn := range tableOf(t, h) {
		if txn.State == api.SCommitted || txn.State == api.SPending {
			placeLeft[place] = len(left)
			left[txn.Name] = place
		}
	}
	without := slices.DeleteFunc(slices.Clone(h), func(e api.Event) bool {
		_, ok := left[e.Tx]
		return !ok
	})
	f := check(t, h)
	moved := api.Found{Verdict: f.Verdict, Steps: f.Steps}
	for _, place := range f.Row {
		moved.Row = append(moved.Row, placeLeft[place])
		moved.Commits |= 1 << placeLeft[place]
	}
	wantEach(t, without, moved)
}

// wantWalks holds Check to all that is promised of many events, and that they are of each kind.
func wantWalks(t *testing.T, walks [][]api.Event, least int) {
	t.Helper()
	verdicts := make([]int, 3)
	later, alone := 0, 0
	for _, h := range walks {
		f := wantAll(t, h)
		verdicts[f.Verdict]++
		if f.Verdict == api.VYes && f.Commits != choicesOf(t, h)[0] {
			later++
		}
		if !wantWeaker(t, h) && f.Verdict == api.VYes {
			alone++
		}
		wantWithout(t, h)
	}
	if verdicts[api.VYes] < least || verdicts[api.VNo] < least || later < 5 || alone < least {
		t.Error(verdicts, later, alone)
	}
}

// unanswered are events without the answer to the first commit: its transaction is one that asked to commit.
func unanswered(h []api.Event) []api.Event {
	at := slices.IndexFunc(h, func(e api.Event) bool { return e.Kind == api.ECommitted })
	if at < 0 {
		return h
	}
	return slices.Concat(h[:at], h[at+1:])
}

// P14.1, P14.2: many events of up to three transactions.
func TestWalks(t *testing.T) {
	var walks [][]api.Event
	for number := range uint32(400) {
		h := walk(t, number, 10+int(number%40), 1+int(number%3))
		walks = append(walks, h, unanswered(h))
	}
	wantWalks(t, walks, 40)
}

// P14.1, P14.2: some of up to six.
func TestGreaterWalks(t *testing.T) {
	var walks [][]api.Event
	for number := range uint32(120) {
		h := walk(t, number, 40+int(number%41), 4+int(number%3))
		walks = append(walks, h, unanswered(h))
	}
	wantWalks(t, walks, 20)
}

// P14.2: the events that the other tests go by: with a great budget nothing is unknown, what is explained is strictly serializable, and the aborted and live ones do not count.
func TestWhatFollows(t *testing.T) {
	for _, s := range []string{nobody, pending, skew, rounds, pending + ";aborted 1", skew + ";begin 3;begun 3"} {
		h := parse(t, s)
		for n := range len(h) + 1 {
			if wantAll(t, h[:n]).Verdict == api.VUnknown {
				t.Error(h[:n])
			}
			wantWeaker(t, h[:n])
			wantWithout(t, h[:n])
		}
	}
}
