package quick_test

import (
	"math"
	"slices"
	"strings"
	"testing"

	"recant/api"
	"recant/complete"
	"recant/cycle"
	"recant/extend"
	"recant/graph"
	"recant/legal"
	"recant/order"
	"recant/proper"
	"recant/quick"
	"recant/serial"
	"recant/table"
	"recant/text"
	"recant/unique"
)

// enough is the budget with which nothing is unknown.
const enough = 46080

// parse are a text's events; a ';' ends a line, too.
func parse(t *testing.T, s string) []api.Event {
	t.Helper()
	h, at, err := text.Parse(strings.ReplaceAll(s, ";", "\n"))
	if err != api.OK {
		t.Fatalf("Parse(%q): %d at %d", s, err, at)
	}
	return h
}

// event is an event without a variable and a value.
func event(kind, tx int) api.Event {
	return api.Event{Kind: kind, Tx: tx}
}

// read and write are Ops of a variable and a value.
func read(variable, val int) api.Op {
	return api.Op{Var: variable, Val: val}
}

func write(variable, val int) api.Op {
	return api.Op{Write: true, Var: variable, Val: val}
}

// transaction are a name's events that read and write so.
func transaction(name int, ops ...api.Op) []api.Event {
	h := []api.Event{event(api.EBegin, name), event(api.EBegun, name)}
	for _, op := range ops {
		if op.Write {
			h = append(h, api.Event{Kind: api.EWrite, Tx: name, Var: op.Var, Val: op.Val}, event(api.EWrote, name))
		} else {
			h = append(h, api.Event{Kind: api.ERead, Tx: name, Var: op.Var}, api.Event{Kind: api.EGot, Tx: name, Val: op.Val})
		}
	}
	return h
}

// yes, no and unknown are what is found.
func yes(commits uint32, steps int, row ...int) api.Found {
	return api.Found{Verdict: api.VYes, Commits: commits, Row: row, Steps: steps}
}

func no(steps int) api.Found {
	return api.Found{Verdict: api.VNo, Steps: steps}
}

func unknown(steps int) api.Found {
	return api.Found{Verdict: api.VUnknown, Steps: steps}
}

// isSame tells whether two are the same, in all but what stands for no row.
func isSame(a, b api.Found) bool {
	return a.Verdict == b.Verdict && a.Commits == b.Commits && slices.Equal(a.Row, b.Row) && a.Steps == b.Steps
}

// want holds Check to its answer, and the events to what they were.
func want(t *testing.T, h []api.Event, budget int, want api.Found, err api.Errno) {
	t.Helper()
	was := slices.Clone(h[:cap(h)])
	got, gotErr := quick.Check(h, budget)
	if !isSame(got, want) || gotErr != err {
		t.Fatalf("Check(%v, %d) = %v, %d; want %v, %d", h, budget, got, gotErr, want, err)
	}
	if !slices.Equal(h[:cap(h)], was) {
		t.Fatalf("Check(%v, %d) left %v", was, budget, h[:cap(h)])
	}
}

// wantEach holds Check of events to an answer with budgets that have its steps, and to what is unknown with those that have less.
func wantEach(t *testing.T, h []api.Event, f api.Found) {
	t.Helper()
	for _, budget := range []int{f.Steps, f.Steps + 1, enough, api.MaxBudget} {
		want(t, h, budget, f, api.OK)
	}
	for budget := range min(f.Steps, 3) {
		want(t, h, budget, unknown(budget), api.OK)
		want(t, h, f.Steps-1-budget, unknown(f.Steps-1-budget), api.OK)
	}
}

// wantText holds Check of a text's events so.
func wantText(t *testing.T, s string, f api.Found) {
	t.Helper()
	wantEach(t, parse(t, s), f)
}

// wantWhy holds Why to its answer, and what it was handed to what that was.
func wantWhy(t *testing.T, h []api.Event, commits uint32, row []int, want []int, err api.Errno) {
	t.Helper()
	wasEvents, wasRow := slices.Clone(h[:cap(h)]), slices.Clone(row[:cap(row)])
	got, gotErr := quick.Why(h, commits, row)
	if !slices.Equal(got, want) || gotErr != err {
		t.Fatalf("Why(%v, %b, %v) = %v, %d; want %v, %d", h, commits, row, got, gotErr, want, err)
	}
	if !slices.Equal(h[:cap(h)], wasEvents) || !slices.Equal(row[:cap(row)], wasRow) {
		t.Fatalf("%v, %v are left as %v, %v", wasEvents, wasRow, h, row)
	}
}

// tableOf are the transactions of events.
func tableOf(t *testing.T, h []api.Event) []api.Txn {
	t.Helper()
	txns, err := table.Table(h)
	if err != api.OK {
		t.Fatal(h, err)
	}
	return txns
}

// rowsOf are the rows that keep an order.
func rowsOf(t *testing.T, after []uint32) [][]int {
	t.Helper()
	all, err := extend.All(after)
	if err != api.OK {
		t.Fatal(after, err)
	}
	return all
}

// Traces that several tests go by.
const (
	// One reads what nobody wrote.
	nobody = "begin 1;begun 1;read 1 0;got 1 3"
	// One that asked to commit wrote what another one reads.
	pending = "begin 1;begun 1;write 1 0 7;wrote 1;commit 1;begin 2;begun 2;read 2 0;got 2 7"
	// Two that read each other's old values, and commit.
	skew = "begin 1;begun 1;begin 2;begun 2;read 1 0;got 1 0;read 2 1;got 2 0;write 1 1 5;wrote 1;write 2 0 6;wrote 2;commit 1;committed 1;commit 2;committed 2"
	// One reads what the first one wrote, behind the second one's commit, that wrote it, too.
	between = "begin 1;begun 1;write 1 0 5;wrote 1;begin 2;begun 2;write 2 0 6;wrote 2;commit 2;committed 2;begin 3;begun 3;read 3 0;got 3 5;commit 1;committed 1"
)

// P19.1, P19.2: of no events the empty row is found, in one step; there is no cycle.
func TestNone(t *testing.T) {
	for _, h := range [][]api.Event{nil, {}} {
		wantEach(t, h, yes(0, 1))
		wantWhy(t, h, 0, nil, nil, api.ErrNone)
		wantWhy(t, h, 0, []int{}, nil, api.ErrNone)
		wantWhy(t, h, 0, []int{0}, nil, api.ErrArg)
		wantWhy(t, h, 1, nil, nil, api.ErrArg)
	}
	wantText(t, "begin 1", yes(0, 1, 0))
	wantText(t, "begin 1;begin 2;begin 3", yes(0, 1, 0, 1, 2))
}

// P19.1, P19.2: the chapter's example: of two that read each other's old values, and commit, both rows are looked at; while one asks to commit only, it need not.
func TestExample(t *testing.T) {
	wantText(t, skew, no(2))
	h := parse(t, skew)
	for _, row := range [][]int{{0, 1}, {1, 0}} {
		wantWhy(t, h, 3, row, []int{0, 1}, api.OK)
		wantWhy(t, h, 1, row, nil, api.ErrNone)
		wantWhy(t, h, 0, row, nil, api.ErrNone)
	}
	wantEach(t, h[:15:15], yes(1, 1, 1, 0))
	wantEach(t, append(h[:15:15], event(api.EAborted, 2)), yes(1, 1, 1, 0))
	wantEach(t, h[:13:13], yes(0, 1, 0, 1))
}

// P19.1: what can't be explained by any choice takes no step, also of a budget of 0; one such read is enough, of one that is aborted, too.
func TestUnreadable(t *testing.T) {
	for _, more := range []string{"", ";cancel 1", ";cancel 1;aborted 1", ";commit 1", ";commit 1;committed 1", ";write 1 0 3;wrote 1"} {
		wantText(t, nobody+more, no(0))
		wantText(t, nobody+more+";begin 2;begun 2;read 2 0;got 2 0", no(0))
	}
	wantText(t, nobody+";begin 2;begun 2;write 2 0 3;wrote 2", no(0))
	wantText(t, nobody+";begin 2;begun 2;write 2 0 3;wrote 2;commit 2", yes(2, 1, 1, 0))
	wantText(t, nobody+";begin 2;begun 2;write 2 0 3;wrote 2;commit 2;aborted 2", no(0))
	wantText(t, pending+";aborted 1", no(0))
	wantText(t, "begin 1;begun 1;write 1 0 4;wrote 1;read 1 0;got 1 0", no(0))
}

// P19.1: a choice with which what was read can't be explained takes no step; the first other one is found, though more might commit.
func TestChoices(t *testing.T) {
	wantText(t, pending, yes(1, 1, 0, 1))
	wantText(t, pending+";commit 2", yes(1, 1, 0, 1))
	wantText(t, pending+";commit 2;committed 2", yes(3, 1, 0, 1))
	wantText(t, strings.Replace(pending, "got 2 7", "got 2 0", 1), yes(0, 1, 0, 1))
	wantText(t, strings.Replace(pending, "got 2 7", "got 2 8", 1), no(0))
	two := "begin 1;begun 1;write 1 0 7;wrote 1;begin 2;begun 2;write 2 1 8;wrote 2;commit 1;commit 2;begin 3;begun 3"
	wantText(t, two, yes(0, 1, 0, 1, 2))
	wantText(t, two+";read 3 0;got 3 7", yes(1, 1, 0, 1, 2))
	wantText(t, two+";read 3 1;got 3 8", yes(2, 1, 0, 1, 2))
	wantText(t, two+";read 3 0;got 3 7;read 3 1;got 3 8", yes(3, 1, 0, 1, 2))
	wantText(t, two+";read 3 0;got 3 7;read 3 1;got 3 0;commit 3", yes(1, 1, 0, 1, 2))
}

// P19.1: if all rows of a choice have a cycle, those of the next one are looked at: the steps are of all choices that can be explained, and of no other.
func TestAllChoices(t *testing.T) {
	wantText(t, skew+";begin 3;begun 3;commit 3", no(4))
	h := append(parse(t, "begin 5;begun 5;begin 6;begun 6;commit 5"), parse(t, skew)...)
	// None of the four is before another one, so there are 24 rows.
	wantEach(t, h, no(2*24))
	wantEach(t, append(h, event(api.ECommit, 6)), no(4*24))
	wantEach(t, append(h, event(api.ECommitted, 5)), no(24))
	// The second one reads what the first one wrote, and what was there ahead of that: only the two choices with the first one are looked at.
	torn := "begin 1;begun 1;begin 2;begun 2;write 1 0 5;wrote 1;write 1 1 6;wrote 1;commit 1;read 2 0;got 2 5;read 2 1;got 2 0"
	wantText(t, torn, no(2))
	wantText(t, torn+";commit 2", no(4))
	wantText(t, torn+";commit 2;committed 2", no(2))
	wantText(t, torn+";aborted 1", no(0))
}

// P19.1: of a choice rows are looked at in order, up to the first one whose graph has no cycle.
func TestRows(t *testing.T) {
	// The one at 1 may not be between the two others. Of the rows 0 1 2, 1 0 2 and 1 2 0 the first one has it there.
	wantText(t, between, yes(3, 2, 1, 0, 2))
	h := parse(t, between)
	wantWhy(t, h, 3, []int{0, 1, 2}, []int{1, 2}, api.OK)
	wantWhy(t, h, 3, []int{1, 0, 2}, nil, api.ErrNone)
	wantWhy(t, h, 3, []int{1, 2, 0}, nil, api.ErrNone)
	// A row that does not keep the order has a graph, too: that tells only which writes are ahead of which.
	wantWhy(t, h, 3, []int{2, 1, 0}, nil, api.ErrNone)
	wantWhy(t, h, 3, []int{2, 0, 1}, []int{1, 2}, api.OK)
	wantEach(t, append([]api.Event{event(api.EBegin, 9)}, h...), yes(6, 2, 0, 2, 1, 3))
	// Of two that wrote it, too, neither may be between: 0 1 2 3, 0 2 1 3 and 1 0 2 3 have one there, 1 2 0 3 has none.
	h = slices.Concat(transaction(1, write(0, 5)), transaction(2, write(0, 6)), transaction(3, write(0, 7)), parse(t, "commit 2;commit 3;committed 3;committed 2"), transaction(4, read(0, 5)), parse(t, "commit 1;committed 1"))
	wantEach(t, h, yes(7, 4, 1, 2, 0, 3))
	wantWhy(t, h, 7, []int{0, 1, 2, 3}, []int{1, 3}, api.OK)
	wantWhy(t, h, 7, []int{1, 0, 2, 3}, []int{2, 3}, api.OK)
	// What comes behind the end of all of these is behind them in each row.
	h = append(h, parse(t, "cancel 4;aborted 4;begin 9")...)
	wantEach(t, h, yes(7, 4, 1, 2, 0, 3, 4))
}

// P19.1: what is found is the first row that keeps the graph, not the one that the graph is of.
func TestFirstOfGraph(t *testing.T) {
	h := slices.Concat(transaction(1, write(0, 5)), transaction(2, read(0, 0)), []api.Event{event(api.ECommit, 1)}, transaction(3, read(0, 5)))
	wantEach(t, h, yes(1, 1, 1, 0, 2))
	h = slices.Concat(transaction(1, read(0, 3)), transaction(2, read(1, 4), write(0, 3)), transaction(3, write(1, 4)), []api.Event{event(api.ECommit, 2), event(api.ECommit, 3)})
	wantEach(t, h, yes(6, 1, 2, 1, 0))
	// The order is among what it keeps.
	wantEach(t, append(h, transaction(4)...), yes(6, 1, 2, 1, 0, 3))
	h = append([]api.Event{event(api.EBegin, 7), event(api.EAborted, 7)}, h...)
	wantEach(t, h, yes(12, 1, 0, 3, 2, 1))
}

// P19.1: only rows that keep the order are looked at, and are to be found.
func TestOrder(t *testing.T) {
	behind := "begin 1;begun 1;write 1 0 7;wrote 1;commit 1;committed 1;begin 2;begun 2;read 2 0;got 2 "
	wantText(t, behind+"7", yes(1, 1, 0, 1))
	wantText(t, behind+"0", no(1))
	wantText(t, behind+"0;begin 3", no(2))
	wantText(t, "begin 3;"+behind+"0", no(3))
	wantText(t, "begin 3;aborted 3;"+behind+"0", no(1))
	// One that ended ahead reads what one wrote that began behind.
	wantText(t, nobody+";cancel 1;aborted 1;begin 2;begun 2;write 2 0 3;wrote 2;commit 2;committed 2", no(1))
}

// P19.1: the budget is one of 0 to 1000000, else ErrArg, also where no step is taken; unique's errors go ahead of that.
func TestWrongBudgets(t *testing.T) {
	for _, budget := range []int{-1, -2, math.MinInt, math.MinInt32, 1000001, math.MaxInt32, 1 << 32, math.MaxInt} {
		for _, h := range [][]api.Event{nil, parse(t, nobody), parse(t, skew), parse(t, pending)} {
			want(t, h, budget, api.Found{}, api.ErrArg)
		}
		want(t, []api.Event{event(api.EBegun, 0)}, budget, api.Found{}, api.ErrForm)
		want(t, transaction(1, write(0, 0)), budget, api.Found{}, api.ErrTwice)
		want(t, slices.Concat(transaction(1, write(0, 5)), transaction(2, write(0, 5))), budget, api.Found{}, api.ErrTwice)
	}
	for _, budget := range []int{0, 1000000} {
		want(t, parse(t, nobody), budget, no(0), api.OK)
	}
}

// wrong are events that tell an error, each with its own.
func wrong(t *testing.T) map[api.Errno][][]api.Event {
	t.Helper()
	seven := parse(t, nobody)
	for tx := range api.MaxTx {
		seven = append(seven, event(api.EBegin, 10+tx))
	}
	twice := transaction(1, write(3, 5))
	return map[api.Errno][][]api.Event{
		api.ErrForm: {
			{event(api.EBegun, 0)},
			parse(t, skew)[1:],
			parse(t, "begin 1;aborted 1;begin 1"),
			append(parse(t, skew), event(api.EBegun, 3)),
			append(transaction(1, write(0, 0)), event(api.EBegun, 1)),
			make([]api.Event, api.MaxEvents),
		},
		api.ErrArg: {
			append(parse(t, nobody), event(api.EKinds, 1)),
			append(parse(t, nobody), event(api.EBegin, -1)),
			append(parse(t, nobody), api.Event{Kind: api.ERead, Tx: 1, Var: 8}),
			make([]api.Event, api.MaxEvents+1),
			seven,
		},
		api.ErrTwice: {
			transaction(1, write(0, 0)),
			transaction(1, read(0, 3), write(0, 4), write(0, 0)),
			append(twice, transaction(2, write(3, 5))...),
			append(append(twice, event(api.ECancel, 1), event(api.EAborted, 1)), transaction(2, read(1, 9), write(3, 5))...),
		},
	}
}

// P19.1, P19.2: unique.Check's errors, of both calls, whatever else is wrong; what is no error there is none here.
func TestErrors(t *testing.T) {
	for err, all := range wrong(t) {
		for _, h := range all {
			if got := unique.Check(h); got != err {
				t.Fatal(h, got, err)
			}
			for _, budget := range []int{0, 9, api.MaxBudget} {
				want(t, h, budget, api.Found{}, err)
			}
			for _, commits := range []uint32{0, 1, 64, math.MaxUint32} {
				wantWhy(t, h, commits, []int{0}, nil, err)
				wantWhy(t, h, commits, nil, nil, err)
				wantWhy(t, h, commits, []int{0, -1}, nil, err)
			}
		}
	}
	wantEach(t, transaction(1, write(0, 5), write(0, 5), write(1, 5)), yes(0, 1, 0))
	wantEach(t, append(transaction(1, write(0, 5)), api.Event{Kind: api.EWrite, Tx: 1}), yes(0, 1, 0))
}

// P19.2: graph.Build's errors: ErrArg of the bits, and of the row, ahead of ErrNone, of what can't be explained; that is told, too, of what has no cycle.
func TestWhyErrors(t *testing.T) {
	h := parse(t, nobody+";begin 2;begun 2;write 2 0 4;wrote 2")
	for _, row := range [][]int{nil, {}, {0}, {0, 0}, {1, 1}, {0, 2}, {-1, 0}, {0, 1, 0}, {0, 1, 2}, {0, math.MaxInt}, {0, math.MinInt}, {0, 32}} {
		wantWhy(t, h, 3, row, nil, api.ErrArg)
		wantWhy(t, parse(t, skew), 3, row, nil, api.ErrArg)
		wantWhy(t, parse(t, skew), 4, row, nil, api.ErrArg)
	}
	for _, commits := range []uint32{4, 7, 8, 1 << 6, 1 << 31, math.MaxUint32} {
		wantWhy(t, h, commits, []int{0, 1}, nil, api.ErrArg)
		wantWhy(t, parse(t, skew), commits, []int{0, 1}, nil, api.ErrArg)
	}
	for commits := range uint32(4) {
		wantWhy(t, h, commits, []int{0, 1}, nil, api.ErrNone)
		wantWhy(t, h[2:2:2], 0, nil, nil, api.ErrNone)
		wantWhy(t, transaction(1, write(0, 5)), commits%2, []int{0}, nil, api.ErrNone)
	}
}

// P19.2: the least cycle is the shortest one, and the first one of those; the bits need be no choice, and the row need not keep the order.
func TestWhyLeast(t *testing.T) {
	// Each reads what the one ahead of it wrote, and the first one what the last one wrote.
	var h []api.Event
	for tx := range 6 {
		h = append(h, event(api.EBegin, tx), event(api.EBegun, tx), api.Event{Kind: api.EWrite, Tx: tx, Var: tx, Val: 5}, event(api.EWrote, tx))
	}
	for tx := range 6 {
		h = append(h, api.Event{Kind: api.ERead, Tx: tx, Var: (tx + 5) % 6}, api.Event{Kind: api.EGot, Tx: tx, Val: 5})
	}
	wantWhy(t, h, 63, []int{0, 1, 2, 3, 4, 5}, []int{0, 1, 2, 3, 4, 5}, api.OK)
	wantWhy(t, h, 63, []int{5, 4, 3, 2, 1, 0}, []int{0, 1, 2, 3, 4, 5}, api.OK)
	wantWhy(t, h, 62, []int{0, 1, 2, 3, 4, 5}, nil, api.ErrNone)
	// Short ways back, each less than those so far: reads of what was there ahead of another one's write.
	for _, x := range []struct {
		more  string
		least []int
	}{
		{"read 4 2;got 4 5;read 4 1;got 4 0", []int{1, 2, 4}},
		{"read 2 0;got 2 0", []int{0, 1, 2}},
		{"read 4 3;got 4 0", []int{3, 4}},
		{"read 0 1;got 0 0", []int{3, 4}},
		{"read 2 1;got 2 0", []int{1, 2}},
	} {
		h = append(h, parse(t, x.more)...)
		wantWhy(t, h, 63, []int{0, 1, 2, 3, 4, 5}, x.least, api.OK)
	}
}

// P19.1: what is answered is new memory, and hangs on what is handed in alone.
func TestNewMemory(t *testing.T) {
	h := parse(t, between)
	row := []int{0, 1, 2}
	for range 3 {
		f, err := quick.Check(h, enough)
		if !isSame(f, yes(3, 2, 1, 0, 2)) || err != api.OK {
			t.Fatal(f, err)
		}
		least, err := quick.Why(h, 3, row)
		if !slices.Equal(least, []int{1, 2}) || err != api.OK {
			t.Fatal(least, err)
		}
		f.Row[0], f.Row[1], f.Row[2], least[0], least[1] = 7, 7, 7, 7, 7
		want(t, h, 1, unknown(1), api.OK)
		want(t, h[:5:5], 1, yes(0, 1, 0, 1), api.OK)
		wantWhy(t, h, 3, []int{1, 0, 2}, nil, api.ErrNone)
	}
}

// tries are what the steps of a check are of, as the chapter's words tell it: those of choices with which what was read can be explained, and of the rows that keep the order; up to the one that is found.
func tries(t *testing.T, h []api.Event) api.Found {
	t.Helper()
	before, err := order.After(h)
	if err != api.OK {
		t.Fatal(h, err)
	}
	choices, err := complete.Choices(h)
	if err != api.OK {
		t.Fatal(h, err)
	}
	steps := 0
	for _, commits := range choices {
		for _, row := range rowsOf(t, before) {
			after, err := graph.Build(h, commits, row)
			if err == api.ErrNone {
				continue
			}
			if err != api.OK {
				t.Fatal(h, commits, row, err)
			}
			steps++
			if _, err = cycle.Least(after); err == api.ErrNone {
				return yes(commits, steps, rowsOf(t, after)[0]...)
			}
		}
	}
	return no(steps)
}

// explains tells whether a row explains all transactions, as chapter 12's words define it.
func explains(t *testing.T, h []api.Event, commits uint32, row []int) bool {
	t.Helper()
	keeps, err := order.Keeps(h, row)
	if err != api.OK {
		t.Fatal(h, row, err)
	}
	n, err := legal.Legal(h, row, commits)
	if err != api.OK {
		t.Fatal(h, row, err)
	}
	return keeps && n == len(row) && n == len(tableOf(t, h))
}

// counts are how often what is to be looked at was seen.
type counts struct {
	explained, turned, later, chosen, unreadable, cyclic, again int
}

// add counts what was found of events.
func (c *counts) add(t *testing.T, h []api.Event, f api.Found) {
	t.Helper()
	count := func(n *int, is bool) {
		if is {
			*n++
		}
	}
	before, _ := order.After(h)
	choices, _ := complete.Choices(h)
	rows := rowsOf(t, before)
	isYes := f.Verdict == api.VYes
	count(&c.explained, isYes)
	count(&c.turned, isYes && !slices.Equal(f.Row, rows[f.Steps-1]))
	count(&c.later, isYes && f.Steps > 1)
	count(&c.chosen, isYes && f.Commits != choices[0])
	count(&c.unreadable, !isYes && f.Steps == 0)
	count(&c.cyclic, !isYes && f.Steps > 0)
	count(&c.again, !isYes && f.Steps > len(rows))
}

// wantDefined holds Check of events to the words, and to what follows: the verdict, and the choice, of the search for all; and what is found explains.
func wantDefined(t *testing.T, h []api.Event, c *counts) {
	t.Helper()
	f := tries(t, h)
	wantEach(t, h, f)
	s, err := serial.Search(h, api.MaxBudget)
	if err != api.OK || s.Verdict != f.Verdict || s.Commits != f.Commits {
		t.Fatalf("Search(%v) = %v, %d; Check: %v", h, s, err, f)
	}
	if f.Verdict == api.VYes && !explains(t, h, f.Commits, f.Row) {
		t.Fatalf("%v, %b: %v does not explain", h, f.Commits, f.Row)
	}
	c.add(t, h, f)
}

// wantWhys holds Why, of events, some of which commit, and of each row, to graph.Build's and cycle.Least's answers; that is a cycle of the graph, just if no row keeps it. It answers how many cycles there were.
func wantWhys(t *testing.T, h []api.Event, commits uint32) int {
	t.Helper()
	cycles := 0
	for _, row := range rowsOf(t, make([]uint32, len(tableOf(t, h)))) {
		after, err := graph.Build(h, commits, row)
		if err != api.OK {
			wantWhy(t, h, commits, row, nil, err)
			continue
		}
		least, err := cycle.Least(after)
		wantWhy(t, h, commits, row, least, err)
		_, orderErr := extend.First(after)
		if (err == api.OK) != (orderErr == api.ErrCycle) {
			t.Fatal(h, commits, row, after, err, orderErr)
		}
		if is, _ := cycle.Walk(after, least); is {
			cycles++
		}
	}
	return cycles
}

// likely is one of the kinds that may come next of a transaction: it reads or writes twice, then it asks to commit; seldom it is cancelled or aborted.
func likely(h []api.Event, tx int, kinds []int, next func(int) int) int {
	if next(24) == 0 {
		// The last one of several is what aborts.
		return kinds[len(kinds)-1]
	}
	if kinds[0] != api.ERead {
		return kinds[0]
	}
	asked := 0
	for _, e := range h {
		if e.Tx == tx && (e.Kind == api.ERead || e.Kind == api.EWrite) {
			asked++
		}
	}
	if asked == 2 {
		return api.ECommit
	}
	return []int{api.ERead, api.EWrite}[next(2)]
}

// seen is a value that a transaction that asked to read may have read: its own, or one of those that asked to commit, or 0; seldom nobody's.
func seen(h []api.Event, tx int, next func(int) int) int {
	if next(40) == 0 {
		return 99
	}
	variable := 0
	for _, e := range h {
		if e.Tx == tx && e.Kind == api.ERead {
			variable = e.Var
		}
	}
	vals := []int{0}
	for _, e := range h {
		if e.Kind != api.EWrite || e.Var != variable {
			continue
		}
		if e.Tx == tx {
			return e.Val
		}
		if slices.Contains(h, event(api.ECommit, e.Tx)) {
			vals = append(vals, e.Val)
		}
	}
	return vals[next(len(vals))]
}

// walk are well-formed events that a number tells: at each place one of those that may be there, of some names. Each writes a value of its own.
func walk(t *testing.T, number uint32, names, length int) []api.Event {
	t.Helper()
	next := func(n int) int {
		number = number*1664525 + 1013904223
		return int(number >> 16 % uint32(n))
	}
	var h []api.Event
	for range length {
		tx := next(names)
		kinds, err := proper.Next(h, tx)
		if err != api.OK {
			t.Fatal(h, err)
		}
		if len(kinds) == 0 {
			continue
		}
		e := event(likely(h, tx, kinds, next), tx)
		switch e.Kind {
		case api.ERead:
			e.Var = next(2)
		case api.EGot:
			e.Val = seen(h, tx, next)
		case api.EWrite:
			e.Var, e.Val = next(2), tx+1
		}
		h = append(h, e)
	}
	return h
}

// P19.1, P19.2, P19.3: made traces: what the words define, and what follows; the least cycles, whoever commits.
func TestWalks(t *testing.T) {
	var c counts
	cycles := 0
	for number := range uint32(6000) {
		h := walk(t, number, 2+int(number%4), 20+int(number%29))
		wantDefined(t, h, &c)
		if number%12 != 0 {
			continue
		}
		for commits := range uint32(1) << len(tableOf(t, h)) {
			cycles += wantWhys(t, h, commits)
		}
	}
	if min(c.explained, c.turned, c.later, c.chosen, c.unreadable, c.cyclic, c.again, cycles) < 30 {
		t.Errorf("what was seen: %+v, %d", c, cycles)
	}
}

// opsOf are all rows of at most two Ops of one that writes a value.
func opsOf(val int) [][]api.Op {
	ops := []api.Op{read(1, 0), read(1, 5), read(1, 6), read(2, 0), write(1, val), write(2, val)}
	all := [][]api.Op{nil}
	for _, a := range ops {
		all = append(all, []api.Op{a})
		for _, b := range ops {
			all = append(all, []api.Op{a, b})
		}
	}
	return all
}

// P19.1, P19.3: all rows of at most two Ops, of two transactions: side by side, and one behind the other; committed, asked to be so, and neither.
func TestAllOps(t *testing.T) {
	asked := []api.Event{event(api.ECommit, 8), event(api.ECommit, 3)}
	both := slices.Concat(asked, []api.Event{event(api.ECommitted, 3), event(api.ECommitted, 8)})
	first := []api.Event{event(api.ECommit, 8), event(api.ECommitted, 8)}
	var c counts
	for _, a := range opsOf(5) {
		for _, b := range opsOf(6) {
			one, two := transaction(8, a...), transaction(3, b...)
			for _, h := range [][]api.Event{
				slices.Concat(one, two, both),
				slices.Concat(one, two, asked),
				slices.Concat(one, two, first),
				slices.Concat(one, first, two, asked[1:]),
			} {
				wantDefined(t, h, &c)
			}
		}
	}
	if min(c.explained, c.turned, c.chosen, c.unreadable, c.cyclic, c.again) < 30 {
		t.Errorf("what was seen: %+v", c)
	}
}

// torn are six transactions, all of which asked to commit: the second one reads what the first one wrote, and what was there ahead of that.
func torn() []api.Event {
	h := slices.Concat(transaction(9999, write(0, math.MinInt32), write(7, math.MaxInt32)), transaction(0, read(0, math.MinInt32), read(7, 0)))
	for tx := range 4 {
		h = append(h, transaction(10+tx)...)
	}
	for _, tx := range []int{9999, 0, 10, 11, 12, 13} {
		h = append(h, event(api.ECommit, tx))
	}
	return h
}

// P19.1, P19.3: the limits: six transactions, all rows of all choices, and still nothing is unknown.
func TestSix(t *testing.T) {
	// Only the choices with the first one are looked at.
	h := torn()
	for _, budget := range []int{32 * 720, enough, api.MaxBudget} {
		want(t, h, budget, no(32*720), api.OK)
	}
	want(t, h, 32*720-1, unknown(32*720-1), api.OK)
	if s, err := serial.Search(h, 125184); err != api.OK || s.Verdict != api.VNo {
		t.Error(s, err)
	}
	wantWhy(t, h, 63, []int{5, 4, 3, 2, 1, 0}, []int{0, 1}, api.OK)
	wantEach(t, append(h, event(api.EAborted, 9999)), no(0))
	wantEach(t, append(h, event(api.ECommitted, 10), event(api.ECommitted, 11), event(api.ECommitted, 12)), no(4*720))
	want(t, append(h, event(api.EBegin, 14)), enough, api.Found{}, api.ErrArg)
}

// P19.1: the limits: 60 events.
func TestLimits(t *testing.T) {
	wrote := api.Event{Kind: api.EWrite, Tx: 20, Var: 7, Val: 8}
	h := transaction(20)
	for len(h) < api.MaxEvents-10 {
		h = append(h, wrote, event(api.EWrote, 20))
	}
	h = append(h, transaction(21, read(7, 8), read(7, 8), read(7, 8))...)
	h = append(h, event(api.ECommit, 20))
	wantEach(t, h, yes(1, 1, 0, 1))
	h = append(h, event(api.ECommitted, 20))
	if len(h) != api.MaxEvents {
		t.Fatal(len(h))
	}
	wantEach(t, h, yes(1, 1, 0, 1))
	wantWhy(t, h, 1, []int{1, 0}, nil, api.ErrNone)
	h[len(h)-3].Val = 0
	wantEach(t, h, no(2))
	wantWhy(t, h, 1, []int{1, 0}, []int{0, 1}, api.OK)
	want(t, append(h, event(api.ECommit, 21)), enough, api.Found{}, api.ErrArg)
	wantWhy(t, append(h, event(api.ECommit, 21)), 1, []int{1, 0}, nil, api.ErrArg)
}
