package world_test

import (
	"math"
	"slices"
	"strings"
	"testing"

	"recant/api"
	"recant/complete"
	"recant/legal"
	"recant/order"
	"recant/proper"
	"recant/serial"
	"recant/strict"
	"recant/table"
	"recant/text"
	"recant/world"
)

// enough is a budget with which nothing is unknown.
const enough = 125184

// parse are a text's events; a ';' ends a line, too.
func parse(t *testing.T, s string) []api.Event {
	t.Helper()
	h, at, err := text.Parse(strings.ReplaceAll(s, ";", "\n"))
	if err != api.OK {
		t.Fatalf("Parse(%q): %d at %d", s, err, at)
	}
	return h
}

// event is an event without a variable and a value.
func event(kind, tx int) api.Event {
	return api.Event{Kind: kind, Tx: tx}
}

// saw is what is found that a transaction saw: a set, with so many steps, and its row.
func saw(set uint32, steps int, row ...int) api.Found {
	return api.Found{Verdict: api.VYes, Commits: set, Row: row, Steps: steps}
}

// no and unknown are what is found else.
func no(steps int) api.Found {
	return api.Found{Verdict: api.VNo, Steps: steps}
}

func unknown(steps int) api.Found {
	return api.Found{Verdict: api.VUnknown, Steps: steps}
}

// consistent is what a check finds: a choice, its row, all steps, and what each other one saw.
func consistent(commits uint32, row []int, steps int, own ...api.Found) api.World {
	return api.World{Verdict: api.VYes, Commits: commits, Row: row, Own: own, Steps: steps}
}

// noWorld and unknownWorld are what it finds else.
func noWorld(steps int) api.World {
	return api.World{Verdict: api.VNo, Steps: steps}
}

func unknownWorld(steps int) api.World {
	return api.World{Verdict: api.VUnknown, Steps: steps}
}

// isSame tells whether two are the same, in all but what stands for no row.
func isSame(a, b api.Found) bool {
	return a.Verdict == b.Verdict && a.Commits == b.Commits && slices.Equal(a.Row, b.Row) && a.Steps == b.Steps
}

// isSameWorld tells so of two that checks found.
func isSameWorld(a, b api.World) bool {
	return a.Verdict == b.Verdict && a.Commits == b.Commits && slices.Equal(a.Row, b.Row) && slices.EqualFunc(a.Own, b.Own, isSame) && a.Steps == b.Steps
}

// wantOne holds One to an answer and the events to what they were.
func wantOne(t *testing.T, h []api.Event, who int, commits uint32, budget int, want api.Found, err api.Errno) {
	t.Helper()
	was := slices.Clone(h[:cap(h)])
	got, gotErr := world.One(h, who, commits, budget)
	if !isSame(got, want) || gotErr != err {
		t.Fatalf("One(%v, %d, %d, %d) = %v, %d; want %v, %d", h, who, commits, budget, got, gotErr, want, err)
	}
	if !slices.Equal(h[:cap(h)], was) {
		t.Fatalf("One(%v, %d, %d, %d) left %v", was, who, commits, budget, h[:cap(h)])
	}
}

// want holds Check so.
func want(t *testing.T, h []api.Event, budget int, want api.World, err api.Errno) {
	t.Helper()
	was := slices.Clone(h[:cap(h)])
	got, gotErr := world.Check(h, budget)
	if !isSameWorld(got, want) || gotErr != err {
		t.Fatalf("Check(%v, %d) = %v, %d; want %v, %d", h, budget, got, gotErr, want, err)
	}
	if !slices.Equal(h[:cap(h)], was) {
		t.Fatalf("Check(%v, %d) left %v", was, budget, h[:cap(h)])
	}
}

// wantOneEach holds One to an answer with budgets that have its steps, and to what is unknown with some that have less.
func wantOneEach(t *testing.T, h []api.Event, who int, commits uint32, f api.Found) {
	t.Helper()
	for _, budget := range []int{f.Steps, f.Steps + 1, enough, api.MaxBudget} {
		wantOne(t, h, who, commits, budget, f, api.OK)
	}
	for budget := range min(f.Steps, 5) {
		wantOne(t, h, who, commits, budget, unknown(budget), api.OK)
		wantOne(t, h, who, commits, f.Steps-1-budget, unknown(f.Steps-1-budget), api.OK)
	}
}

// wantEach holds Check so.
func wantEach(t *testing.T, h []api.Event, w api.World) {
	t.Helper()
	for _, budget := range []int{w.Steps, w.Steps + 1, enough, api.MaxBudget} {
		want(t, h, budget, w, api.OK)
	}
	for budget := range min(w.Steps, 10) {
		want(t, h, budget, unknownWorld(budget), api.OK)
		want(t, h, w.Steps-1-budget, unknownWorld(w.Steps-1-budget), api.OK)
	}
}

// wantText holds Check of a text's events so.
func wantText(t *testing.T, s string, w api.World) {
	t.Helper()
	wantEach(t, parse(t, s), w)
}

// wantSaw holds One of a text's events so.
func wantSaw(t *testing.T, s string, who int, commits uint32, f api.Found) {
	t.Helper()
	wantOneEach(t, parse(t, s), who, commits, f)
}

// choicesOf are the choices of events.
func choicesOf(t *testing.T, h []api.Event) []uint32 {
	t.Helper()
	choices, err := complete.Choices(h)
	if err != api.OK {
		t.Fatal(h, err)
	}
	return choices
}

// sizeOf is how many transactions there are.
func sizeOf(t *testing.T, h []api.Event) int {
	t.Helper()
	txns, err := table.Table(h)
	if err != api.OK {
		t.Fatal(h, err)
	}
	return len(txns)
}

// check is what is found with a budget that is great enough.
func check(t *testing.T, h []api.Event) api.World {
	t.Helper()
	w, err := world.Check(h, enough)
	if err != api.OK {
		t.Fatal(h, err)
	}
	return w
}

// Traces that several tests go by.
const (
	// One reads what nobody wrote.
	nobody = "begin 1;begun 1;read 1 0;got 1 3"
	// One reads what another one wrote whose commit is asked.
	pending = "begin 1;begun 1;write 1 0 7;wrote 1;commit 1;begin 2;begun 2;read 2 0;got 2 7"
	// Two that read each other's old values, and both commit.
	skew = "begin 1;begun 1;begin 2;begun 2;read 1 0;got 1 0;read 2 1;got 2 0;write 1 1 5;wrote 1;write 2 0 6;wrote 2;commit 1;committed 1;commit 2;committed 2"
	// Two aborted readers that saw two commits the one way round, and the other way round.
	rounds = "begin 1;begun 1;begin 2;begun 2;begin 3;begun 3;begin 4;begun 4;write 1 0 1;wrote 1;write 2 1 1;wrote 2;commit 1;commit 2;committed 1;committed 2;" +
		"read 3 0;got 3 1;read 3 1;got 3 0;read 4 0;got 4 0;read 4 1;got 4 1;cancel 3;aborted 3;cancel 4;aborted 4"
	// Two that begin and commit one after the other, with one that began ahead of both.
	chain = "begin 3;begun 3;begin 1;begun 1;write 1 0 1;wrote 1;commit 1;committed 1;begin 2;begun 2;write 2 1 2;wrote 2;commit 2;committed 2"
	// Two that commit beside each other and beside a third one; each writes variable 0, and one of its own.
	beside = "begin 1;begun 1;begin 2;begun 2;begin 3;begun 3;write 1 0 1;wrote 1;write 1 1 1;wrote 1;write 2 0 2;wrote 2;write 2 2 2;wrote 2;commit 1;commit 2;committed 1;committed 2"
	// What is answered at last has a place, told by a percent sign.
	late = "begin 1;begun 1;write 1 0 7;wrote 1;commit 1;committed 1;begin 2;begun 2;read 2 0;got 2 %"
)

// P15.1: one that read nothing saw nobody, in one step; so of one that wrote, that is aborted, or that asks.
func TestSawNobody(t *testing.T) {
	for _, s := range []string{"begin 1", "begin 1;aborted 1", "begin 1;begun 1", "begin 1;begun 1;read 1 0", "begin 1;begun 1;read 1 0;got 1 0", "begin 1;begun 1;write 1 0 4;wrote 1;read 1 0;got 1 4;commit 1"} {
		wantSaw(t, s, 0, 0, saw(0, 1))
	}
	wantSaw(t, nobody, 0, 0, no(1))
	wantSaw(t, nobody+";commit 1;committed 1", 0, 1, no(1))
}

// P15.1: sets are tried rising as numbers; an empty one takes a step, too.
func TestSets(t *testing.T) {
	wantSaw(t, beside, 2, 3, saw(0, 1))
	wantSaw(t, beside+";read 3 0;got 3 0", 2, 3, saw(0, 1))
	wantSaw(t, beside+";read 3 0;got 3 1", 2, 3, saw(1, 2, 0))
	wantSaw(t, beside+";read 3 0;got 3 2", 2, 3, saw(2, 3, 1))
	wantSaw(t, beside+";read 3 0;got 3 2;read 3 2;got 3 0", 2, 3, no(5))
	wantSaw(t, beside+";read 3 0;got 3 9", 2, 3, no(5))
	// One whose place is above one that it did not see: the set is told by places.
	wantSaw(t, "begin 3;begun 3;begin 1;begun 1;begin 2;begun 2;write 2 0 5;wrote 2;commit 1;commit 2;read 3 0;got 3 5", 0, 6, saw(4, 3, 2))
}

// P15.1: of each set the rows are tried in order, and the row with the transaction behind it is to read what it may.
func TestRows(t *testing.T) {
	wantSaw(t, beside+";read 3 1;got 3 1;read 3 2;got 3 2", 2, 3, saw(3, 4, 0, 1))
	wantSaw(t, beside+";read 3 0;got 3 2;read 3 1;got 3 1", 2, 3, saw(3, 4, 0, 1))
	wantSaw(t, beside+";read 3 0;got 3 1;read 3 2;got 3 2", 2, 3, saw(3, 5, 1, 0))
	// Those of the set are to read what they may, too: here 2 reads what 1 wrote.
	reads := "begin 1;begun 1;begin 2;begun 2;begin 3;begun 3;write 1 0 1;wrote 1;commit 1;read 2 0;got 2 1;write 2 1 2;wrote 2;commit 2;committed 2;committed 1"
	wantSaw(t, reads+";read 3 1;got 3 2;read 3 0;got 3 1", 2, 3, saw(3, 4, 0, 1))
	wantSaw(t, reads+";read 3 1;got 3 2;read 3 0;got 3 0", 2, 3, no(5))
	wantSaw(t, strings.Replace(reads, "got 2 1", "got 2 0", 1)+";read 3 1;got 3 2;read 3 0;got 3 1", 2, 3, saw(3, 5, 1, 0))
	// Its own writes are seen first.
	wantSaw(t, beside+";write 3 0 9;wrote 3;read 3 0;got 3 9;read 3 2;got 3 2", 2, 3, saw(2, 3, 1))
}

// P15.1: rows keep the order, and are those of places that lie apart.
func TestRowsOrder(t *testing.T) {
	// 3, at place 0, is beside all; 1 is before 2; 4 is beside all.
	h := strings.Replace(chain, "begin 1;begun 1", "begin 4;begun 4;begin 1;begun 1", 1) + ";write 4 0 9;wrote 4;commit 4;committed 4"
	wantSaw(t, h+";read 3 0;got 3 9;read 3 1;got 3 2", 0, 14, saw(14, 1+1+1+2+1+2, 2, 1, 3))
	wantSaw(t, h+";read 3 0;got 3 1;read 3 1;got 3 2", 0, 14, saw(12, 1+1+1+2+1, 2, 3))
	// 4 and 1 may be seen alone, 2 only with 1: of all three there are three rows.
	wantSaw(t, h+";read 3 0;got 3 5", 0, 14, no(1+1+1+2+1+3))
}

// P15.1: each that commits and is before it is in the set.
func TestBefore(t *testing.T) {
	wantSaw(t, strings.Replace(late, "%", "7", 1), 1, 1, saw(1, 1, 0))
	wantSaw(t, strings.Replace(late, "%", "0", 1), 1, 1, no(1))
	// One that is aborted, or not ended, or not of the choice, is not.
	wantSaw(t, strings.Replace(strings.Replace(late, "committed 1", "aborted 1", 1), "%", "0", 1), 1, 0, saw(0, 1))
	wantSaw(t, strings.Replace(strings.Replace(late, "committed 1", "aborted 1", 1), "%", "7", 1), 1, 0, no(1))
	wantSaw(t, pending, 1, 1, saw(1, 2, 0))
	wantSaw(t, pending, 1, 0, no(1))
	wantSaw(t, strings.Replace(pending, "got 2 7", "got 2 0", 1), 1, 1, saw(0, 1))
}

// P15.1: each that commits and is before one of the set is in it.
func TestBeforeOneOfTheSet(t *testing.T) {
	wantSaw(t, chain, 0, 6, saw(0, 1))
	wantSaw(t, chain+";read 3 0;got 3 1;read 3 1;got 3 0", 0, 6, saw(2, 2, 1))
	wantSaw(t, chain+";read 3 0;got 3 1;read 3 1;got 3 2", 0, 6, saw(6, 3, 1, 2))
	wantSaw(t, chain+";read 3 0;got 3 0;read 3 1;got 3 2", 0, 6, no(3))
	// An aborted one that is before one of the set is not.
	wantSaw(t, strings.Replace(chain, "commit 1;committed 1", "commit 1;aborted 1", 1)+";read 3 0;got 3 0;read 3 1;got 3 2", 0, 4, saw(4, 2, 2))
	// One is before another one that is before the transaction: both are in it.
	behind := "begin 1;begun 1;write 1 0 1;wrote 1;commit 1;committed 1;begin 2;begun 2;write 2 1 2;wrote 2;commit 2;committed 2;begin 3;begun 3;read 3 0;got 3 %;read 3 1;got 3 2"
	wantSaw(t, strings.Replace(behind, "%", "1", 1), 2, 3, saw(3, 1, 0, 1))
	wantSaw(t, strings.Replace(behind, "%", "0", 1), 2, 3, no(1))
}

// P15.1: none that it is before is in the set, whether it commits or is aborted.
func TestBehind(t *testing.T) {
	after := ";begin 2;begun 2;write 2 0 3;wrote 2;commit 2"
	for _, end := range []string{";cancel 1;aborted 1", ";commit 1;aborted 1"} {
		wantSaw(t, nobody+end+after, 0, 2, no(1))
		wantSaw(t, nobody+end+after+";committed 2", 0, 2, no(1))
	}
	wantSaw(t, nobody+";commit 1;committed 1"+after, 0, 1, no(1))
	wantSaw(t, nobody+";commit 1;committed 1"+after, 0, 3, no(1))
	// One that is not ended is before none.
	wantSaw(t, nobody+after, 0, 2, saw(2, 2, 1))
	wantSaw(t, nobody+";commit 1"+after, 0, 2, saw(2, 2, 1))
	// One that is beside it, and behind which one stands that it is before, is no less to be seen.
	wantSaw(t, "begin 2;begun 2;write 2 0 3;wrote 2;"+nobody+";commit 2;committed 2;cancel 1;aborted 1;begin 3;begun 3;write 3 0 4;wrote 3;commit 3;committed 3", 1, 5, saw(1, 2, 0))
	// Its set has none that is before it only by way of itself.
	wantSaw(t, nobody+";cancel 1;aborted 1;begin 2;begun 2;commit 2;committed 2;begin 3;begun 3;write 3 0 3;wrote 3;commit 3;committed 3", 0, 6, no(1))
}

// P15.1: a transaction that commits itself is none of its set, and its own writes are not there ahead of it.
func TestOneThatCommits(t *testing.T) {
	h := "begin 1;begun 1;read 1 0;got 1 %;write 1 0 7;wrote 1;commit 1;begin 2;begun 2;write 2 0 5;wrote 2;commit 2"
	for _, s := range []string{h, h + ";committed 1", h + ";committed 2;committed 1"} {
		wantSaw(t, strings.Replace(s, "%", "0", 1), 0, 3, saw(0, 1))
		wantSaw(t, strings.Replace(s, "%", "5", 1), 0, 3, saw(2, 2, 1))
		wantSaw(t, strings.Replace(s, "%", "7", 1), 0, 3, no(2))
	}
	// Of the choice that it does not commit, it is no one else's to see.
	wantSaw(t, strings.Replace(h, "%", "5", 1), 0, 1, no(1))
	wantSaw(t, strings.Replace(h, "%", "5", 1), 0, 2, saw(2, 2, 1))
	wantSaw(t, strings.Replace(h, "%", "5", 1), 1, 1, saw(0, 1))
}

// P15.1: six, of which five commit beside the last one, that reads what nobody wrote: each set's rows are steps.
func TestAllSets(t *testing.T) {
	h := parse(t, sixth)
	wantOneEach(t, h, 5, 31, no(1+5+10*2+10*6+5*24+120))
	wantOneEach(t, h, 5, 7, no(1+3+3*2+6))
	wantOneEach(t, h, 5, 20, no(1+2+2))
	wantOneEach(t, h, 5, 0, no(1))
	for tx := range 5 {
		h = append(h, event(api.ECommitted, tx))
	}
	wantOneEach(t, h, 5, 31, no(326))
}

// sixth are six of which five asked to commit, and the last reads what nobody wrote.
const sixth = "begin 0;begun 0;begin 1;begun 1;begin 2;begun 2;begin 3;begun 3;begin 4;begun 4;begin 5;begun 5;" +
	"write 0 0 1;wrote 0;commit 0;write 1 0 1;wrote 1;commit 1;write 2 0 1;wrote 2;commit 2;write 3 0 1;wrote 3;commit 3;write 4 0 1;wrote 4;commit 4;read 5 0;got 5 9"

// P15.1: the errors, in their order: events', the budget's, of bits that are no transaction's, of no transaction, of no choice.
func TestOneErrors(t *testing.T) {
	h := parse(t, strings.Replace(late, "%", "7", 1))
	wrong := append(slices.Clone(h), event(api.EBegun, 2))
	for _, who := range []int{-1, 0, 1, 2, math.MinInt, math.MaxInt} {
		for _, commits := range []uint32{0, 1, 4, math.MaxUint32} {
			for _, budget := range []int{-1, 0, 9, api.MaxBudget, api.MaxBudget + 1} {
				wantOne(t, wrong, who, commits, budget, api.Found{}, api.ErrForm)
				wantOne(t, make([]api.Event, api.MaxEvents+1), who, commits, budget, api.Found{}, api.ErrArg)
			}
			for _, budget := range []int{-1, math.MinInt, api.MaxBudget + 1, math.MaxInt, 1 << 32} {
				wantOne(t, h, who, commits, budget, api.Found{}, api.ErrArg)
				wantOne(t, nil, who, commits, budget, api.Found{}, api.ErrArg)
			}
		}
		for _, commits := range []uint32{4, 5, 1 << 6, 1 << 31, math.MaxUint32} {
			wantOne(t, h, who, commits, 9, api.Found{}, api.ErrNone)
		}
	}
	for _, who := range []int{-1, 2, 3, 31, 32, 64, math.MinInt, math.MaxInt} {
		for _, commits := range []uint32{0, 1, 2, 3} {
			wantOne(t, h, who, commits, 9, api.Found{}, api.ErrNone)
		}
		wantOne(t, nil, who, 0, 9, api.Found{}, api.ErrNone)
	}
	for _, who := range []int{0, 1} {
		for _, commits := range []uint32{0, 2, 3} {
			wantOne(t, h, who, commits, 0, api.Found{}, api.ErrArg)
			wantOne(t, h, who, commits, 9, api.Found{}, api.ErrArg)
		}
		wantOne(t, h, who, 1, 0, unknown(0), api.OK)
	}
	wantOne(t, nil, 0, 0, 9, api.Found{}, api.ErrNone)
	wantOne(t, nil, 0, 1, 9, api.Found{}, api.ErrNone)
}

// P15.1: the error ahead of the others is serial.Row's, of commits as both.
func TestOneErrorsAreRows(t *testing.T) {
	for _, s := range []string{nobody, pending, skew, rounds, chain} {
		h := parse(t, s)
		for commits := range uint32(70) {
			for _, budget := range []int{-1, 0, enough, api.MaxBudget + 1} {
				_, rows := serial.Row(h, commits, commits, budget)
				_, err := world.One(h, 0, commits, budget)
				if rows == api.OK && !slices.Contains(choicesOf(t, h), commits) {
					rows = api.ErrArg
				}
				if err != rows {
					t.Errorf("One(%v, 0, %d, %d): %d; want %d", h, commits, budget, err, rows)
				}
			}
		}
	}
}

// P15.2: no events are consistent, without a step; of what commits, a row; of each other one, what it saw.
func TestFew(t *testing.T) {
	for _, h := range [][]api.Event{nil, {}, parse(t, nobody)[:0]} {
		wantEach(t, h, consistent(0, nil, 0))
	}
	wantText(t, "begin 1", consistent(0, nil, 1, saw(0, 1)))
	wantText(t, "begin 1;aborted 1", consistent(0, nil, 1, saw(0, 1)))
	wantText(t, "begin 1;begun 1;commit 1", consistent(0, nil, 1, saw(0, 1)))
	wantText(t, "begin 1;begun 1;commit 1;committed 1", consistent(1, []int{0}, 1))
	wantText(t, "begin 1;begun 1;begin 2;aborted 2;begin 3;begun 3;commit 1;committed 1", consistent(1, []int{0}, 3, saw(0, 1), saw(0, 1)))
}

// P15.2: the chapter's example, and the others in which one reads what nobody wrote.
func TestNobody(t *testing.T) {
	for _, more := range []string{"", ";cancel 1", ";cancel 1;aborted 1", ";read 1 0;aborted 1", ";commit 1;aborted 1", ";commit 1;committed 1"} {
		wantText(t, nobody+more, noWorld(1))
	}
	// If its commit is asked, there are two choices.
	wantText(t, nobody+";commit 1", noWorld(2))
	// What another one writes behind the answer is seen, if it is not behind the transaction: the prefixes do not count.
	wantText(t, nobody+";begin 2;begun 2;write 2 0 3;wrote 2;commit 2;committed 2", consistent(2, []int{1}, 3, saw(2, 2, 1)))
	wantText(t, nobody+";cancel 1;aborted 1;begin 2;begun 2;write 2 0 3;wrote 2;commit 2;committed 2", noWorld(2))
}

// P15.2: two aborted readers that saw two commits the one way round, and the other way round, saw what they may; there is no row of all.
func TestRounds(t *testing.T) {
	wantText(t, rounds, consistent(3, []int{0, 1}, 2+2+3, saw(1, 2, 0), saw(2, 3, 1)))
	f, err := serial.Search(parse(t, rounds), enough)
	if err != api.OK || f.Verdict != api.VNo {
		t.Fatal(f, err)
	}
	// What they saw hangs on their own reads alone, whatever the other's are.
	wantText(t, strings.Replace(rounds, "got 3 0", "got 3 1", 1), consistent(3, []int{0, 1}, 2+4+3, saw(3, 4, 0, 1), saw(2, 3, 1)))
	wantText(t, strings.Replace(rounds, "got 3 0", "got 3 2", 1), noWorld(2+5))
	wantText(t, strings.Replace(rounds, "got 4 0", "got 4 2", 1), noWorld(2+2+5))
}

// P15.2: those that commit are to have a row of their own; if they have none, no other one is looked at.
func TestCommitted(t *testing.T) {
	wantText(t, skew, noWorld(4))
	wantText(t, skew+";begin 3;begun 3", noWorld(4))
	wantEach(t, parse(t, skew)[:15], consistent(1, []int{0}, 2, saw(0, 1)))
	// What one saw need not be in the row of those that commit.
	h := beside + ";read 3 0;got 3 1;read 3 2;got 3 2"
	wantText(t, h, consistent(3, []int{0, 1}, 2+5, saw(3, 5, 1, 0)))
	// One that is aborted reads the first value behind a commit that is before it: strictly serializable, not consistent.
	wantText(t, strings.Replace(late, "%", "0", 1)+";cancel 2;aborted 2", noWorld(2))
	f, err := strict.Check(parse(t, strings.Replace(late, "%", "0", 1)), enough)
	if err != api.OK || f.Verdict != api.VYes {
		t.Fatal(f, err)
	}
	wantText(t, strings.Replace(late, "%", "7", 1), consistent(1, []int{0}, 2, saw(1, 1, 0)))
}

// P15.2: choices are gone through in order; the first VNo ends one, and the next one is tried.
func TestChoices(t *testing.T) {
	wantText(t, pending, consistent(1, []int{0}, 2+1+2, saw(1, 2, 0)))
	wantText(t, strings.Replace(pending, "got 2 7", "got 2 0", 1), consistent(0, nil, 2, saw(0, 1), saw(0, 1)))
	wantText(t, strings.Replace(pending, "got 2 7", "got 2 8", 1), noWorld(2+3))
	// The first one that is not of the choice saw nothing: the second one is not looked at.
	two := "begin 2;begun 2;begin 3;begun 3;begin 1;begun 1;write 1 0 7;wrote 1;commit 1;read 2 0;got 2 %;read 3 0;got 3 7"
	wantText(t, strings.Replace(two, "%", "7", 1), consistent(4, []int{2}, 1+1+2+2, saw(4, 2, 2), saw(4, 2, 2)))
	wantText(t, strings.Replace(two, "%", "0", 1), consistent(4, []int{2}, 2+1+1+2, saw(0, 1), saw(4, 2, 2)))
	wantText(t, strings.Replace(two, "%", "8", 1), noWorld(1+1+2))
	// A choice that has a row, though what another one saw is not there, is left for one that commits more.
	both := "begin 1;begun 1;write 1 0 7;wrote 1;begin 2;begun 2;write 2 1 8;wrote 2;commit 1;commit 2;begin 3;begun 3;read 3 0;got 3 7;read 3 1;got 3 8"
	wantText(t, both, consistent(3, []int{0, 1}, 3+(1+1+2)+(1+1+2)+(2+4), saw(3, 4, 0, 1)))
	wantText(t, both+";commit 3;committed 3", consistent(7, []int{0, 1, 2}, 1+3+3+3))
}

// P15.2: each search has what is left of the budget; what is unknown ends the check, and has no choice, no row, and nothing that anyone saw.
func TestBudgets(t *testing.T) {
	h := parse(t, rounds)
	for budget := range 7 {
		want(t, h, budget, unknownWorld(budget), api.OK)
	}
	want(t, h, 7, consistent(3, []int{0, 1}, 7, saw(1, 2, 0), saw(2, 3, 1)), api.OK)
	want(t, parse(t, nobody), 0, unknownWorld(0), api.OK)
	want(t, parse(t, nobody+";commit 1"), 1, unknownWorld(1), api.OK)
	want(t, parse(t, skew), 3, unknownWorld(3), api.OK)
	want(t, parse(t, pending), 4, unknownWorld(4), api.OK)
	for _, budget := range []int{-1, -2, math.MinInt, math.MinInt32, 1000001, math.MaxInt32, 1 << 32, math.MaxInt} {
		for _, s := range []string{"", "begin 1", nobody, pending, skew} {
			want(t, parse(t, s), budget, api.World{}, api.ErrArg)
		}
		want(t, parse(t, skew)[1:], budget, api.World{}, api.ErrForm)
	}
	want(t, nil, 0, consistent(0, nil, 0), api.OK)
	want(t, nil, 1000000, consistent(0, nil, 0), api.OK)
}

// P15.2: the errors are those of serial.Search.
func TestErrors(t *testing.T) {
	seven := parse(t, nobody)
	for tx := range api.MaxTx {
		seven = append(seven, event(api.EBegin, 10+tx))
	}
	for _, h := range [][]api.Event{
		nil, seven, seven[:len(seven)-1], parse(t, skew), parse(t, skew)[1:],
		{event(api.EBegun, 0)}, append(parse(t, nobody), event(api.EBegun, 1)), append(parse(t, skew), event(api.EBegun, 3)),
		append(parse(t, nobody), event(api.EKinds, 1)), append(parse(t, nobody), event(api.EBegin, -1)),
		append(parse(t, nobody), api.Event{Kind: api.ERead, Tx: 1, Var: 8}), make([]api.Event, api.MaxEvents), make([]api.Event, api.MaxEvents+1),
	} {
		for _, budget := range []int{-1, 0, 1, enough, api.MaxBudget, api.MaxBudget + 1} {
			_, searched := serial.Search(h, budget)
			w, err := world.Check(h, budget)
			if err != searched {
				t.Errorf("Check(%v, %d): %d; Search: %d", h, budget, err, searched)
			}
			if err != api.OK && !isSameWorld(w, api.World{}) {
				t.Errorf("Check(%v, %d) = %v, %d", h, budget, w, err)
			}
		}
	}
}

// P15.2: Like tells whether the verdict, the choice, the row, what each saw, and the steps are the same.
func TestLike(t *testing.T) {
	wantLike := func(a, b api.World, want bool) {
		t.Helper()
		if world.Like(a, b) != want || world.Like(b, a) != want {
			t.Errorf("Like(%v, %v) is not %v", a, b, want)
		}
	}
	a := func() api.World {
		return api.World{Verdict: api.VNo, Commits: 3, Row: []int{1, 0}, Own: []api.Found{saw(1, 2, 0), saw(2, 3, 1)}, Steps: 7}
	}
	wantLike(a(), a(), true)
	for _, change := range []func(*api.World){
		func(w *api.World) { w.Verdict = api.VYes },
		func(w *api.World) { w.Verdict = 3 },
		func(w *api.World) { w.Commits = 2 },
		func(w *api.World) { w.Commits |= 1 << 31 },
		func(w *api.World) { w.Row = nil },
		func(w *api.World) { w.Row = []int{1} },
		func(w *api.World) { w.Row = []int{0, 1} },
		func(w *api.World) { w.Row = []int{1, 0, 2} },
		func(w *api.World) { w.Own = nil },
		func(w *api.World) { w.Own = w.Own[:1] },
		func(w *api.World) { w.Own = append(w.Own, api.Found{}) },
		func(w *api.World) { w.Own[0], w.Own[1] = w.Own[1], w.Own[0] },
		func(w *api.World) { w.Own[0].Verdict = api.VNo },
		func(w *api.World) { w.Own[0].Commits = 0 },
		func(w *api.World) { w.Own[1].Row = nil },
		func(w *api.World) { w.Own[1].Row = []int{0} },
		func(w *api.World) { w.Own[1].Steps = 2 },
		func(w *api.World) { w.Steps = 8 },
		func(w *api.World) { w.Steps = math.MinInt },
	} {
		b := a()
		change(&b)
		wantLike(a(), b, false)
		wantLike(b, b, true)
	}
	wantLike(api.World{}, api.World{}, true)
	wantLike(api.World{}, api.World{Row: []int{}, Own: []api.Found{}}, true)
	wantLike(api.World{Own: []api.Found{{}}}, api.World{Own: []api.Found{{Row: []int{}}}}, true)
	wantLike(api.World{}, api.World{Own: []api.Found{{}}}, false)
}

// P15.1, P15.2: what is answered is new memory, no two lists of it share any, and it hangs on what is handed in alone.
func TestNewMemory(t *testing.T) {
	s := strings.Replace(beside, "begin 3;begun 3", "begin 3;begun 3;begin 4;begun 4", 1) + ";read 3 1;got 3 1;read 3 2;got 3 2;read 4 1;got 4 1;read 4 2;got 4 2"
	h := parse(t, s)
	whole := consistent(3, []int{0, 1}, 2+4+4, saw(3, 4, 0, 1), saw(3, 4, 0, 1))
	for range 3 {
		w := check(t, h)
		if !isSameWorld(w, whole) {
			t.Fatal(w)
		}
		w.Row[0], w.Row[1] = 7, 7
		_ = append(w.Row, 7)
		if !isSame(w.Own[0], saw(3, 4, 0, 1)) || !isSame(w.Own[1], saw(3, 4, 0, 1)) {
			t.Fatal(w)
		}
		w.Own[0].Row[0], w.Own[0].Row[1] = 8, 8
		_ = append(w.Own[0].Row, 8)
		if !isSame(w.Own[1], saw(3, 4, 0, 1)) || !slices.Equal(w.Row, []int{7, 7}) {
			t.Fatal(w)
		}
		f, err := world.One(h, 2, 3, 4)
		if err != api.OK || !isSame(f, saw(3, 4, 0, 1)) {
			t.Fatal(f, err)
		}
		f.Row[0], f.Row[1] = 9, 9
		wantOne(t, h, 2, 3, 3, unknown(3), api.OK)
		want(t, h, 9, unknownWorld(9), api.OK)
		want(t, h[:8:8], 9, consistent(0, nil, 4, saw(0, 1), saw(0, 1), saw(0, 1), saw(0, 1)), api.OK)
	}
}

// P15.2: the limits: 60 events, and six transactions, of which all asked to commit.
func TestLimits(t *testing.T) {
	s := "begin 1;begun 1"
	for range 28 {
		s += ";read 1 7;got 1 0"
	}
	wantText(t, s+";read 1 7;got 1 0", consistent(0, nil, 1, saw(0, 1)))
	wantText(t, s+";read 1 7;got 1 1", noWorld(1))
	want(t, append(parse(t, s+";read 1 7;got 1 0"), event(api.EBegin, 2)), 9, api.World{}, api.ErrArg)
	h := parse(t, sixth)
	// Of each choice of n writers the row is found in n steps, each writer that it does not commit saw nobody, and the reader tries all.
	tries := []int{1, 2, 5, 16, 65, 326}
	ways := []int{1, 5, 10, 10, 5, 1}
	steps := 0
	for n := range tries {
		steps += ways[n] * (n + 5 - n + tries[n])
	}
	wantEach(t, h, noWorld(steps))
	for tx := range 5 {
		h = append(h, event(api.ECommitted, tx))
	}
	wantEach(t, h, noWorld(5+326))
	wantEach(t, h[:6*2], consistent(0, nil, 6, saw(0, 1), saw(0, 1), saw(0, 1), saw(0, 1), saw(0, 1), saw(0, 1)))
}

// maySee tells whether a set is one that a transaction may have seen, by the words.
func maySee(t *testing.T, h []api.Event, who int, commits, set uint32) bool {
	t.Helper()
	size := sizeOf(t, h)
	isBefore := func(i, k int) bool {
		yes, err := order.Before(h, i, k)
		if err != api.OK {
			t.Fatal(h, i, k, err)
		}
		return yes
	}
	if set&^commits != 0 || set>>who&1 == 1 {
		return false
	}
	for place := range size {
		if set>>place&1 == 1 && isBefore(who, place) {
			return false
		}
		if commits>>place&1 == 0 || place == who || set>>place&1 == 1 {
			continue
		}
		for other := range size {
			if (other == who || set>>other&1 == 1) && isBefore(place, other) {
				return false
			}
		}
	}
	return true
}

// listed are all rows of each of some places, in order.
func listed(set uint32) [][]int {
	if set == 0 {
		return [][]int{nil}
	}
	var all [][]int
	for place := range 32 {
		if set>>place&1 == 0 {
			continue
		}
		for _, row := range listed(set &^ (1 << place)) {
			all = append(all, append([]int{place}, row...))
		}
	}
	return all
}

// keeps tells whether a row keeps the order.
func keeps(t *testing.T, h []api.Event, row []int) bool {
	t.Helper()
	yes, err := order.Keeps(h, row)
	if err != api.OK {
		t.Fatal(h, row, err)
	}
	return yes
}

// isLegal tells whether all of a row read what they may.
func isLegal(t *testing.T, h []api.Event, row []int, commits uint32) bool {
	t.Helper()
	n, err := legal.Legal(h, row, commits)
	if err != api.OK {
		t.Fatal(h, row, err)
	}
	return n == len(row)
}

// definedOne is what is found that a transaction saw, by the words, without a limit to its steps.
func definedOne(t *testing.T, h []api.Event, who int, commits uint32) api.Found {
	t.Helper()
	steps := 0
	for set := range uint32(1) << sizeOf(t, h) {
		if !maySee(t, h, who, commits, set) {
			continue
		}
		for _, row := range listed(set) {
			if !keeps(t, h, row) {
				continue
			}
			steps++
			if isLegal(t, h, append(slices.Clone(row), who), commits) {
				return saw(set, steps, row...)
			}
		}
	}
	return no(steps)
}

// defined is what a check finds, by the words, without a limit to its steps.
func defined(t *testing.T, h []api.Event) api.World {
	t.Helper()
	steps := 0
choice:
	for _, commits := range choicesOf(t, h) {
		all, err := serial.Row(h, commits, commits, api.MaxBudget)
		if err != api.OK || all.Verdict == api.VUnknown {
			t.Fatal(h, commits, all, err)
		}
		steps += all.Steps
		if all.Verdict == api.VNo {
			continue
		}
		var own []api.Found
		for who := range sizeOf(t, h) {
			if commits>>who&1 == 1 {
				continue
			}
			f := definedOne(t, h, who, commits)
			steps += f.Steps
			if f.Verdict == api.VNo {
				continue choice
			}
			own = append(own, f)
		}
		return consistent(commits, all.Row, steps, own...)
	}
	return noWorld(steps)
}

// wantOnes holds One to the words, of all transactions and choices.
func wantOnes(t *testing.T, h []api.Event) {
	t.Helper()
	for _, commits := range choicesOf(t, h) {
		for who := range sizeOf(t, h) {
			wantOneEach(t, h, who, commits, definedOne(t, h, who, commits))
		}
	}
}

// wantTrue holds what is found to what it says: the row explains those that commit, and each other one saw a set that it may, by a row that tells it.
func wantTrue(t *testing.T, h []api.Event, w api.World) {
	t.Helper()
	if !slices.Contains(choicesOf(t, h), w.Commits) {
		t.Fatal(h, w)
	}
	wantRowOf(t, h, w.Row, w.Commits)
	if !isLegal(t, h, w.Row, w.Commits) {
		t.Fatal(h, w)
	}
	left := w.Own
	for who := range sizeOf(t, h) {
		if w.Commits>>who&1 == 1 {
			continue
		}
		f := left[0]
		left = left[1:]
		wantRowOf(t, h, f.Row, f.Commits)
		longer := append(slices.Clone(f.Row), who)
		if f.Verdict != api.VYes || !maySee(t, h, who, w.Commits, f.Commits) || !isLegal(t, h, longer, w.Commits) || !keeps(t, h, longer) {
			t.Fatal(h, w, who)
		}
	}
	if len(left) > 0 {
		t.Fatal(h, w)
	}
}

// wantRowOf holds a row to that it has those of a set, once each, and keeps the order.
func wantRowOf(t *testing.T, h []api.Event, row []int, set uint32) {
	t.Helper()
	var bits uint32
	for _, place := range row {
		bits |= 1 << place
	}
	if bits != set || !keeps(t, h, row) {
		t.Fatal(h, row, set)
	}
}

// wantBetween holds Check to that what is explained is consistent, and what is consistent strictly serializable, and tells the verdicts of the three.
func wantBetween(t *testing.T, h []api.Event) [3]int {
	t.Helper()
	explained, err := serial.Search(h, enough)
	if err != api.OK {
		t.Fatal(h, err)
	}
	w := check(t, h)
	serializable, err := strict.Check(h, enough)
	if err != api.OK {
		t.Fatal(h, err)
	}
	// VYes is the least of the verdicts, and none is unknown.
	if explained.Verdict < w.Verdict || w.Verdict < serializable.Verdict || explained.Verdict == api.VUnknown {
		t.Fatalf("Check(%v, %d) = %v; Search = %v; strict.Check = %v", h, enough, w, explained, serializable)
	}
	return [3]int{explained.Verdict, w.Verdict, serializable.Verdict}
}

// script are the events of one transaction, from begin on, as far as it goes: one of an even name writes, and asks to commit; one of an odd name reads what was written of a variable in any of the events, or the first value, and most are ended then.
func script(tx int, next func(int) int) []api.Event {
	h := []api.Event{event(api.EBegin, tx), event(api.EBegun, tx)}
	for k := range 2 {
		variable := next(2)
		switch next(8) + 8*(tx%2) {
		case 0, 8, 9, 10, 11, 12, 13, 14:
			if tx%2 == 1 {
				variable = k
			}
			h = append(h, api.Event{Kind: api.ERead, Tx: tx, Var: variable}, event(api.EGot, tx))
		default:
			h = append(h, api.Event{Kind: api.EWrite, Tx: tx, Var: variable, Val: 1 + next(3)}, event(api.EWrote, tx))
		}
	}
	ends := [][]int{{api.ECommit, api.ECommitted}, {api.ECommit}, {api.ECommit, api.ECommitted}, {api.ECommit, api.EAborted}, {}, {api.ECancel, api.EAborted}, {api.ECancel, api.EAborted}, {api.ECommit, api.ECommitted}}
	for _, kind := range ends[next(4)+4*(tx%2)] {
		h = append(h, event(kind, tx))
	}
	return h
}

// mixed are the events of each script, in order, mixed as chances have it; what they read is filled in: of a variable, its first value, or one that is written somewhere, more likely by one that went ahead.
func mixed(scripts [][]api.Event, next func(int) int) []api.Event {
	var h []api.Event
	for left := slices.Clone(scripts); len(left) > 0; {
		i := next(len(left))
		// So that not all of them are beside all others, one goes on for some events.
		for range 1 + next(5) {
			if len(left[i]) == 0 {
				break
			}
			h = append(h, left[i][0])
			left[i] = left[i][1:]
		}
		left = slices.DeleteFunc(left, func(l []api.Event) bool { return len(l) == 0 })
	}
	asked := map[int]int{}
	for i, e := range h {
		switch e.Kind {
		case api.ERead:
			asked[e.Tx] = e.Var
		case api.EGot:
			h[i].Val = shown(h, i, asked[e.Tx], next)
		}
	}
	return h
}

// shown is a value that may be read at a place: one of its own writes, one of any, or the first one.
func shown(h []api.Event, place, variable int, next func(int) int) int {
	vals := []int{0}
	for i, e := range h {
		if e.Kind != api.EWrite || e.Var != variable {
			continue
		}
		if e.Tx == h[place].Tx && i < place {
			return e.Val
		}
		if i < place || next(4) == 0 {
			vals = append(vals, e.Val)
		}
	}
	return vals[next(len(vals))]
}

// walk are well-formed events of some transactions, that a number tells.
func walk(t *testing.T, number uint32, transactions int) []api.Event {
	t.Helper()
	next := func(n int) int {
		number = number*1664525 + 1013904223
		return int(number >> 16 % uint32(n))
	}
	var scripts [][]api.Event
	for tx := range transactions {
		scripts = append(scripts, script(tx, next))
	}
	h := mixed(scripts, next)
	if n, err := proper.Check(h); err != api.OK {
		t.Fatal(h, n, err)
	}
	return h
}

// unanswered are events without the answer to the first commit: its transaction is one that asked to commit.
func unanswered(h []api.Event) []api.Event {
	at := slices.IndexFunc(h, func(e api.Event) bool { return e.Kind == api.ECommitted })
	if at < 0 {
		return h
	}
	return slices.Concat(h[:at], h[at+1:])
}

// walks are so many rows of events of some transactions, each once more without an answer, and once without some of its last ones.
func walks(t *testing.T, count uint32, transactions int) [][]api.Event {
	t.Helper()
	var all [][]api.Event
	for number := range count {
		h := walk(t, number, transactions)
		all = append(all, h, unanswered(h), h[:len(h)-int(number)%7])
	}
	return all
}

// P15.1: what One finds, of events of up to five transactions.
func TestOneWalks(t *testing.T) {
	for transactions := 2; transactions <= 5; transactions++ {
		for _, h := range walks(t, 40, transactions) {
			wantOnes(t, h)
		}
	}
}

// P15.2, P15.3: what Check finds, of events of up to six, and that they are of each kind.
func TestWalks(t *testing.T) {
	var all [][]api.Event
	for transactions := 1; transactions <= api.MaxTx; transactions++ {
		all = append(all, walks(t, 25*uint32(transactions), transactions)...)
	}
	kinds := map[[3]int]int{}
	later, others := 0, 0
	for _, h := range all {
		w := defined(t, h)
		wantEach(t, h, w)
		if w.Verdict == api.VYes {
			wantTrue(t, h, w)
			if w.Commits != choicesOf(t, h)[0] {
				later++
			}
			for _, f := range w.Own {
				if len(f.Row) > 1 {
					others++
				}
			}
		}
		kinds[wantBetween(t, h)]++
	}
	for _, kind := range [][3]int{{0, 0, 0}, {1, 0, 0}, {1, 1, 0}, {1, 1, 1}} {
		if kinds[kind] < 5 {
			t.Error(kind, kinds)
		}
	}
	if later < 20 || others < 20 {
		t.Error(later, others)
	}
}

// P15.3: the events that the other tests go by, with all their prefixes.
func TestWhatFollows(t *testing.T) {
	for _, s := range []string{nobody, pending, skew, rounds, chain, beside, pending + ";aborted 1", skew + ";begin 3;begun 3", strings.Replace(late, "%", "0", 1), chain + ";read 3 0;got 3 0;read 3 1;got 3 2"} {
		h := parse(t, s)
		for n := range len(h) + 1 {
			wantEach(t, h[:n], defined(t, h[:n]))
			wantOnes(t, h[:n])
			wantBetween(t, h[:n])
		}
	}
}
