package early_test

import (
	"math"
	"slices"
	"strings"
	"testing"

	"recant/api"
	"recant/early"
	"recant/legal"
	"recant/opaque"
	"recant/order"
	"recant/proper"
	"recant/serial"
	"recant/table"
	"recant/text"
)

// enough is the budget with which nothing is unknown.
const enough = 2000

// parse are a text's events; a ';' ends a line, too.
func parse(t *testing.T, s string) []api.Event {
	t.Helper()
	h, at, err := text.Parse(strings.ReplaceAll(s, ";", "\n"))
	if err != api.OK {
		t.Fatalf("Parse(%q): %d at %d", s, err, at)
	}
	return h
}

// event is an event without a variable and a value.
func event(kind, tx int) api.Event {
	return api.Event{Kind: kind, Tx: tx}
}

// by is what is found that makes an event possible: a set, with so many steps, and its row.
func by(set uint32, steps int, row ...int) api.Found {
	return api.Found{Verdict: api.VYes, Commits: set, Row: row, Steps: steps}
}

// no and unknown are what is found else.
func no(steps int) api.Found {
	return api.Found{Verdict: api.VNo, Steps: steps}
}

func unknown(steps int) api.Found {
	return api.Found{Verdict: api.VUnknown, Steps: steps}
}

// isSame tells whether two are the same, in all but what stands for no row.
func isSame(a, b api.Found) bool {
	return a.Verdict == b.Verdict && a.Commits == b.Commits && slices.Equal(a.Row, b.Row) && a.Steps == b.Steps
}

// isSameTrace tells so of two that checks found.
func isSameTrace(a, b api.Trace) bool {
	return a.Verdict == b.Verdict && a.At == b.At && slices.EqualFunc(a.Own, b.Own, isSame) && a.Steps == b.Steps
}

// wantAnswer holds Answer to an answer and the events to what they were.
func wantAnswer(t *testing.T, h []api.Event, i, budget int, want api.Found, err api.Errno) {
	t.Helper()
	was := slices.Clone(h[:cap(h)])
	got, gotErr := early.Answer(h, i, budget)
	if !isSame(got, want) || gotErr != err {
		t.Fatalf("Answer(%v, %d, %d) = %v, %d; want %v, %d", h, i, budget, got, gotErr, want, err)
	}
	if !slices.Equal(h[:cap(h)], was) {
		t.Fatalf("Answer(%v, %d, %d) left %v", was, i, budget, h[:cap(h)])
	}
}

// want holds Check so.
func want(t *testing.T, h []api.Event, budget int, want api.Trace, err api.Errno) {
	t.Helper()
	was := slices.Clone(h[:cap(h)])
	got, gotErr := early.Check(h, budget)
	if !isSameTrace(got, want) || gotErr != err {
		t.Fatalf("Check(%v, %d) = %v, %d; want %v, %d", h, budget, got, gotErr, want, err)
	}
	if !slices.Equal(h[:cap(h)], was) {
		t.Fatalf("Check(%v, %d) left %v", was, budget, h[:cap(h)])
	}
}

// wantEach holds Answer to an answer with budgets that have its steps, and to what is unknown with some that have less.
func wantEach(t *testing.T, h []api.Event, i int, f api.Found) {
	t.Helper()
	for _, budget := range []int{f.Steps, f.Steps + 1, enough, api.MaxBudget} {
		wantAnswer(t, h, i, budget, f, api.OK)
	}
	for budget := range min(f.Steps, 3) {
		wantAnswer(t, h, i, budget, unknown(budget), api.OK)
		wantAnswer(t, h, i, f.Steps-1-budget, unknown(f.Steps-1-budget), api.OK)
	}
}

// wantLast holds Answer of a text's last event so.
func wantLast(t *testing.T, s string, f api.Found) {
	t.Helper()
	h := parse(t, s)
	wantEach(t, h, len(h)-1, f)
}

// trace is what a check finds: a verdict, at which length, with so many steps, and those of the events that passed that took a step; all others passed without one.
func trace(verdict, at, steps int, told map[int]api.Found) api.Trace {
	passed := at
	if verdict != api.VYes {
		passed--
	}
	c := api.Trace{Verdict: verdict, At: at, Own: make([]api.Found, passed), Steps: steps}
	for i, f := range told {
		c.Own[i] = f
	}
	return c
}

// wantTrace holds Check of a text's events, with budgets that are enough, to an answer.
func wantTrace(t *testing.T, s string, c api.Trace) {
	t.Helper()
	for _, budget := range []int{enough, api.MaxBudget} {
		want(t, parse(t, s), budget, c, api.OK)
	}
}

// Traces that several tests go by.
const (
	// One reads what nobody wrote.
	nobody = "begin 1;begun 1;read 1 0;got 1 3"
	// One reads what another one wrote whose commit is asked.
	pending = "begin 1;begun 1;write 1 0 7;wrote 1;commit 1;begin 2;begun 2;read 2 0;got 2 7"
	// Two that read each other's old values, and both commit.
	skew = "begin 1;begun 1;begin 2;begun 2;read 1 0;got 1 0;read 2 1;got 2 0;write 1 1 5;wrote 1;write 2 0 6;wrote 2;commit 1;committed 1;commit 2;committed 2"
	// Two aborted readers that saw two commits the one way round, and the other way round.
	rounds = "begin 1;begun 1;begin 2;begun 2;begin 3;begun 3;begin 4;begun 4;write 1 0 1;wrote 1;write 2 1 1;wrote 2;commit 1;commit 2;committed 1;committed 2;" +
		"read 3 0;got 3 1;read 3 1;got 3 0;read 4 0;got 4 0;read 4 1;got 4 1;cancel 3;aborted 3;cancel 4;aborted 4"
	// Two that asked to commit, beside each other and beside a third one; each writes variable 0, and one of its own.
	beside = "begin 1;begun 1;begin 2;begun 2;begin 3;begun 3;write 1 0 1;wrote 1;write 1 1 1;wrote 1;write 2 0 2;wrote 2;write 2 2 2;wrote 2;commit 1;commit 2"
	// They are committed.
	both = ";committed 1;committed 2"
	// Two that begin and commit one after the other, with one that began ahead of both.
	chain = "begin 3;begun 3;begin 1;begun 1;write 1 0 1;wrote 1;commit 1;committed 1;begin 2;begun 2;write 2 1 2;wrote 2;commit 2;committed 2"
	// Six of which five asked to commit.
	six = "begin 0;begun 0;begin 1;begun 1;begin 2;begun 2;begin 3;begun 3;begin 4;begun 4;begin 5;begun 5;" +
		"write 0 0 1;wrote 0;commit 0;write 1 0 1;wrote 1;commit 1;write 2 0 1;wrote 2;commit 2;write 3 0 1;wrote 3;commit 3;write 4 0 1;wrote 4;commit 4"
)

// P20.2: of no events all is possible.
func TestNoEvents(t *testing.T) {
	for _, h := range [][]api.Event{nil, {}, parse(t, nobody)[:0]} {
		for _, budget := range []int{0, 1, enough, api.MaxBudget} {
			want(t, h, budget, api.Trace{}, api.OK)
		}
	}
}

// P20.1: what is asked, and EBegun, is possible without a step, whatever was ahead of it.
func TestWithoutSteps(t *testing.T) {
	for _, s := range []string{"", nobody, pending, pending + ";aborted 1", skew, beside + both} {
		for _, more := range []string{"begin 9", "begin 9;begun 9", "begin 9;begun 9;read 9 0", "begin 9;begun 9;write 9 0 5", "begin 9;begun 9;commit 9", "begin 9;begun 9;cancel 9"} {
			wantLast(t, strings.TrimPrefix(s+";"+more, ";"), by(0, 0))
		}
	}
	for _, more := range []string{";read 1 1", ";write 1 0 3", ";commit 1", ";cancel 1"} {
		wantLast(t, nobody+more, by(0, 0))
	}
}

// P20.1, P20.2: a read of what nobody wrote is not possible, at its answer, whatever comes behind that; each of its later answers isn't either, but that it is aborted.
func TestNobody(t *testing.T) {
	wantLast(t, nobody, no(1))
	wantTrace(t, "begin 1;begun 1;read 1 0", trace(api.VYes, 3, 0, nil))
	wantTrace(t, "begin 1;begun 1;read 1 0;got 1 0", trace(api.VYes, 4, 1, map[int]api.Found{3: by(0, 1)}))
	for more, f := range map[string]api.Found{
		"":                                  no(1),
		";read 1 1;got 1 0":                 no(1),
		";write 1 0 3;wrote 1":              no(1),
		";write 1 0 3":                      by(0, 0),
		";commit 1;committed 1":             no(1),
		";commit 1;aborted 1":               by(0, 1),
		";cancel 1;aborted 1":               by(0, 1),
		";read 1 1;aborted 1":               by(0, 1),
		";write 1 0 3;aborted 1":            by(0, 1),
		";begin 2;aborted 2":                by(0, 1),
		";begin 2;begun 2;read 2 0;got 2 0": by(0, 1),
	} {
		wantLast(t, nobody+more, f)
		wantTrace(t, nobody+more, trace(api.VNo, 4, 1, nil))
	}
}

// P20.1, P20.2: the chapter's example: what reads of one whose commit is asked is possible by that one.
func TestPending(t *testing.T) {
	told := map[int]api.Found{3: by(0, 1), 8: by(1, 2, 0)}
	wantTrace(t, pending, trace(api.VYes, 9, 3, told))
	wantLast(t, pending, by(1, 2, 0))
	wantTrace(t, pending+";read 2 1;got 2 0", trace(api.VYes, 11, 5, map[int]api.Found{3: by(0, 1), 8: by(1, 2, 0), 10: by(1, 2, 0)}))
	// One that did not ask is nobody's to see.
	wantTrace(t, strings.Replace(pending, "commit 1;", "", 1), trace(api.VNo, 8, 2, map[int]api.Found{3: by(0, 1)}))
	wantTrace(t, strings.Replace(pending, "commit 1;", "cancel 1;", 1), trace(api.VNo, 9, 2, map[int]api.Found{3: by(0, 1)}))
	// Nor is one that asked behind the answer.
	wantTrace(t, strings.Replace(pending, "commit 1;", "", 1)+";commit 1", trace(api.VNo, 8, 2, map[int]api.Found{3: by(0, 1)}))
}

// P20.1, P20.2: if that one is aborted then, all is possible until the reader is answered again, with anything but that it is aborted.
func TestAbortedThen(t *testing.T) {
	s := pending + ";aborted 1"
	told := map[int]api.Found{3: by(0, 1), 8: by(1, 2, 0), 9: by(0, 1)}
	wantTrace(t, s, trace(api.VYes, 10, 4, told))
	for _, more := range []string{";read 2 1;got 2 0", ";read 2 0;got 2 7", ";read 2 0;got 2 0", ";write 2 1 3;wrote 2", ";commit 2;committed 2"} {
		wantTrace(t, s+more, trace(api.VNo, 12, 5, told))
	}
	told[11] = by(0, 1)
	for _, more := range []string{";read 2 1;aborted 2", ";write 2 1 3;aborted 2", ";commit 2;aborted 2", ";cancel 2;aborted 2"} {
		wantTrace(t, s+more, trace(api.VYes, 12, 5, told))
	}
	// One that is aborted from the beginning on is no one's to see.
	wantLast(t, strings.Replace(pending, "commit 1;", "commit 1;aborted 1;", 1), no(1))
}

// P20.1: sets are gone through rising as numbers, whether those in them asked to commit or are committed; the empty one takes a step, too.
func TestSets(t *testing.T) {
	for _, s := range []string{beside, beside + ";committed 1", beside + ";committed 2", beside + both} {
		wantLast(t, s+";read 3 0;got 3 0", by(0, 1))
		wantLast(t, s+";read 3 0;got 3 1", by(1, 2, 0))
		wantLast(t, s+";read 3 0;got 3 2", by(2, 3, 1))
		wantLast(t, s+";read 3 0;got 3 9", no(5))
		wantLast(t, s+";write 3 0 9;wrote 3", by(0, 1))
		// Rows are gone through in order, and the transaction comes behind them.
		wantLast(t, s+";read 3 1;got 3 1;read 3 2;got 3 2", by(3, 4, 0, 1))
		wantLast(t, s+";read 3 0;got 3 1;read 3 2;got 3 2", by(3, 5, 1, 0))
		wantLast(t, s+";read 3 0;got 3 2;read 3 2;got 3 0", no(5))
		wantLast(t, s+";read 3 0;got 3 1;read 3 2;got 3 2;write 3 0 1;wrote 3", by(3, 5, 1, 0))
		// Its own writes are seen first.
		wantLast(t, s+";write 3 0 9;wrote 3;read 3 0;got 3 9;read 3 2;got 3 2", by(2, 3, 1))
	}
	// Sets are told by places, also of those behind.
	wantLast(t, "begin 3;begun 3;begin 1;begun 1;begin 2;begun 2;write 2 0 5;wrote 2;commit 1;commit 2;read 3 0;got 3 5", by(4, 3, 2))
	wantLast(t, "begin 3;begun 3;begin 2;begun 2;write 2 0 5;wrote 2;commit 2;begin 1;begun 1;read 3 0;got 3 5", by(2, 2, 1))
}

// P20.1: those of a row are to read what they may, too.
func TestRowsAreLegal(t *testing.T) {
	// 2 reads what 1 wrote, or not.
	h := "begin 1;begun 1;begin 2;begun 2;begin 3;begun 3;write 1 0 1;wrote 1;commit 1;read 2 0;got 2 %;write 2 1 2;wrote 2;commit 2"
	reads := strings.Replace(h, "%", "1", 1)
	wantLast(t, reads+";read 3 1;got 3 2;read 3 0;got 3 1", by(3, 4, 0, 1))
	wantLast(t, reads+";read 3 1;got 3 2;read 3 0;got 3 0", no(5))
	wantLast(t, strings.Replace(h, "%", "0", 1)+";read 3 1;got 3 2;read 3 0;got 3 1", by(3, 5, 1, 0))
	// If 1 is aborted, 2 is in no set: it can't be answered that it commits.
	wantLast(t, reads+";aborted 1;read 3 1;got 3 0", by(0, 1))
	wantLast(t, reads+";aborted 1;read 3 1;got 3 2", no(2))
	wantLast(t, reads+";aborted 1;committed 2", no(1))
	wantLast(t, reads+";committed 2", by(3, 2, 0, 1))
	wantLast(t, reads+";committed 2;aborted 1", no(1))
	wantLast(t, reads+";aborted 2;committed 1", by(1, 1, 0))
}

// P20.1: one that is committed, and before the transaction, is in the set; one that only asked, or is aborted, is not before it.
func TestBefore(t *testing.T) {
	late := "begin 1;begun 1;write 1 0 7;wrote 1;commit 1;% 1;begin 2;begun 2;read 2 0;got 2 "
	wantLast(t, strings.Replace(late, "%", "committed", 1)+"7", by(1, 1, 0))
	wantLast(t, strings.Replace(late, "%", "committed", 1)+"0", no(1))
	wantLast(t, strings.Replace(late, "%", "aborted", 1)+"7", no(1))
	wantLast(t, strings.Replace(late, "%", "aborted", 1)+"0", by(0, 1))
	wantLast(t, strings.Replace(late, ";% 1", "", 1)+"7", by(1, 2, 0))
	wantLast(t, strings.Replace(late, ";% 1", "", 1)+"0", by(0, 1))
	// One that is committed, and beside it, need not be.
	wantLast(t, "begin 2;begun 2;begin 1;begun 1;write 1 0 7;wrote 1;commit 1;committed 1;read 2 0;got 2 0", by(0, 1))
	wantLast(t, "begin 2;begun 2;begin 1;begun 1;write 1 0 7;wrote 1;commit 1;committed 1;write 2 0 4;wrote 2", by(0, 1))
}

// P20.1: one that is committed, and before one of the set, is in it; one that is aborted is not.
func TestBeforeOneOfTheSet(t *testing.T) {
	wantLast(t, chain+";read 3 7;got 3 0", by(0, 1))
	wantLast(t, chain+";read 3 0;got 3 1;read 3 1;got 3 0", by(2, 2, 1))
	wantLast(t, chain+";read 3 0;got 3 1;read 3 1;got 3 2", by(6, 3, 1, 2))
	wantLast(t, chain+";read 3 0;got 3 0;read 3 1;got 3 2", no(3))
	open := strings.TrimSuffix(chain, ";committed 2")
	wantLast(t, open+";read 3 0;got 3 1;read 3 1;got 3 2", by(6, 3, 1, 2))
	wantLast(t, open+";read 3 0;got 3 0;read 3 1;got 3 2", no(3))
	aborted := strings.Replace(chain, "committed 1", "aborted 1", 1)
	wantLast(t, aborted+";read 3 0;got 3 0;read 3 1;got 3 2", by(4, 2, 2))
	wantLast(t, aborted+";read 3 0;got 3 1;read 3 1;got 3 2", no(2))
	// One is before another one that is before the transaction: both are in it.
	behind := "begin 1;begun 1;write 1 0 1;wrote 1;commit 1;committed 1;begin 2;begun 2;write 2 1 2;wrote 2;commit 2;committed 2;begin 3;begun 3;read 3 0;got 3 %;read 3 1;got 3 2"
	wantLast(t, strings.Replace(behind, "%", "1", 1), by(3, 1, 0, 1))
	wantLast(t, strings.Replace(behind, "%", "0", 1), no(1))
}

// P20.1: rows keep the order, and are those of places that lie apart.
func TestRowsOrder(t *testing.T) {
	// 3, at place 0, is beside all; 1 is before 2; 4, at place 1, is beside all.
	h := strings.Replace(chain, "begin 1;begun 1", "begin 4;begun 4;begin 1;begun 1", 1) + ";write 4 0 9;wrote 4;commit 4;committed 4"
	wantLast(t, h+";read 3 0;got 3 9;read 3 1;got 3 2", by(14, 1+1+1+2+1+2, 2, 1, 3))
	wantLast(t, h+";read 3 0;got 3 1;read 3 1;got 3 2", by(12, 1+1+1+2+1, 2, 3))
	// 4 and 1 may be seen alone, 2 only with 1: of all three there are three rows.
	wantLast(t, h+";read 3 0;got 3 5", no(1+1+1+2+1+3))
}

// P20.1: of ECommitted all that are committed, and the transaction, are in the set; others that asked may be.
func TestCommitted(t *testing.T) {
	wantLast(t, "begin 1;begun 1;commit 1;committed 1", by(1, 1, 0))
	wantLast(t, pending+";committed 1", by(1, 1, 0))
	wantLast(t, pending+";commit 2;committed 2", by(3, 2, 0, 1))
	wantLast(t, beside+";committed 1", by(1, 1, 0))
	wantLast(t, beside+";committed 2", by(2, 1, 1))
	wantLast(t, beside+both, by(3, 1, 0, 1))
	wantLast(t, beside+both+";read 3 0;got 3 2;commit 3;committed 3", by(7, 1, 0, 1, 2))
	wantLast(t, beside+both+";read 3 0;got 3 1;commit 3;committed 3", by(7, 2, 0, 2, 1))
	wantLast(t, beside+both+";read 3 0;got 3 1;read 3 2;got 3 2;commit 3;committed 3", by(7, 3, 1, 0, 2))
	wantLast(t, beside+both+";read 3 0;got 3 0;commit 3;committed 3", by(7, 5, 2, 0, 1))
	wantLast(t, beside+both+";read 3 0;got 3 2;read 3 2;got 3 0;commit 3;committed 3", no(6))
	// Here it needs no other one, one that is committed, or one that asked.
	wantLast(t, beside+";commit 3;committed 3", by(4, 1, 2))
	wantLast(t, beside+";committed 2;commit 3;committed 3", by(6, 1, 1, 2))
	wantLast(t, beside+";read 3 0;got 3 1;commit 3;committed 3", by(5, 2, 0, 2))
	wantLast(t, beside+";read 3 0;got 3 2;commit 3;committed 3", by(6, 4, 1, 2))
	wantLast(t, beside+";committed 2;read 3 0;got 3 1;commit 3;committed 3", by(7, 4, 0, 2, 1))
	// What a transaction wrote is there though its commit is answered only now: two of one row read each other's old values.
	h := parse(t, skew)
	wantEach(t, h, 13, by(1, 1, 0))
	wantEach(t, h, 15, no(2))
	wantTrace(t, skew, trace(api.VNo, 16, 7, map[int]api.Found{5: by(0, 1), 7: by(0, 1), 9: by(0, 1), 11: by(0, 1), 13: by(1, 1, 0)}))
}

// P20.1: of EAborted all that are committed, and not the transaction, are in the set, whatever it read; others that asked may be.
func TestAborted(t *testing.T) {
	wantLast(t, "begin 1;aborted 1", by(0, 1))
	wantLast(t, beside+";aborted 1", by(0, 1))
	wantLast(t, beside+";committed 1;aborted 2", by(1, 1, 0))
	wantLast(t, beside+";committed 2;aborted 1", by(2, 1, 1))
	wantLast(t, beside+both+";cancel 3;aborted 3", by(3, 1, 0, 1))
	wantLast(t, beside+both+";commit 3;aborted 3", by(3, 1, 0, 1))
	wantLast(t, beside+both+";read 3 0;got 3 9;commit 3;aborted 3", by(3, 1, 0, 1))
	wantLast(t, beside+both+";begin 4;aborted 4", by(3, 1, 0, 1))
	// One that is committed read what another one wrote, that only asked: that one can't be aborted, any other can.
	h := pending + ";commit 2;committed 2"
	wantLast(t, h+";aborted 1", no(1))
	wantLast(t, h+";begin 3;begun 3;commit 3;aborted 3", by(3, 2, 0, 1))
	wantLast(t, h+";begin 3;begun 3;cancel 3;aborted 3", by(3, 2, 0, 1))
	wantLast(t, h+";committed 1;begin 3;aborted 3", by(3, 1, 0, 1))
}

// P20.2: TMS1 takes what opacity does not: two aborted readers that saw two commits this way round, and that.
func TestRounds(t *testing.T) {
	h := parse(t, rounds)
	c, err := early.Check(h, enough)
	if err != api.OK || c.Verdict != api.VYes || c.At != len(h) || len(c.Own) != len(h) {
		t.Fatal(c, err)
	}
	o, err := opaque.Check(h, 125184)
	if err != api.OK || o.Verdict != api.VNo {
		t.Fatal(o, err)
	}
	for i, f := range map[int]api.Found{17: by(1, 2, 0), 19: by(1, 2, 0), 21: by(0, 1), 23: by(2, 3, 1), 25: by(3, 1, 0, 1), 27: by(3, 1, 0, 1)} {
		if !isSame(c.Own[i], f) {
			t.Error(i, c.Own[i])
		}
		wantEach(t, h, i, f)
	}
	// Both can't be committed.
	s := strings.Replace(strings.Replace(rounds, "cancel 3;aborted 3", "commit 3;committed 3", 1), "cancel 4;aborted 4", "commit 4;committed 4", 1)
	wantLast(t, s, no(24))
}

// P20.2: each event has the whole budget; the first one that is too long for it ends the check with what is unknown, and its steps count.
func TestBudgets(t *testing.T) {
	h := parse(t, pending+";committed 1;read 2 1;got 2 0")
	whole := map[int]api.Found{3: by(0, 1), 8: by(1, 2, 0), 9: by(1, 1, 0), 11: by(1, 2, 0)}
	want(t, h, 0, trace(api.VUnknown, 4, 0, nil), api.OK)
	want(t, h, 1, trace(api.VUnknown, 9, 2, map[int]api.Found{3: by(0, 1)}), api.OK)
	for _, budget := range []int{2, 3, enough} {
		want(t, h, budget, trace(api.VYes, 12, 6, whole), api.OK)
	}
	want(t, h[:3], 0, trace(api.VYes, 3, 0, nil), api.OK)
	// What is behind the one that is unknown is not looked at, and that one may be one that is not possible.
	want(t, parse(t, nobody+";read 1 1;got 1 0"), 0, trace(api.VUnknown, 4, 0, nil), api.OK)
	want(t, parse(t, nobody+";read 1 1;got 1 0"), 1, trace(api.VNo, 4, 1, nil), api.OK)
}

// P20.1, P20.2: the budget is one of 0 to 1000000, else ErrArg, also where no step is taken; events' errors go ahead of that.
func TestWrongBudgets(t *testing.T) {
	for _, budget := range []int{-1, -2, math.MinInt, math.MinInt32, 1000001, math.MaxInt32, 1 << 32, math.MaxInt} {
		for _, h := range [][]api.Event{nil, parse(t, "begin 1"), parse(t, nobody), parse(t, pending)} {
			want(t, h, budget, api.Trace{}, api.ErrArg)
			for _, i := range []int{-1, 0, 3, 99} {
				wantAnswer(t, h, i, budget, api.Found{}, api.ErrArg)
			}
		}
		wrong := append(parse(t, nobody), event(api.EBegun, 1))
		want(t, wrong, budget, api.Trace{}, api.ErrForm)
		wantAnswer(t, wrong, 0, budget, api.Found{}, api.ErrForm)
	}
	for _, budget := range []int{0, 1000000} {
		want(t, nil, budget, api.Trace{}, api.OK)
		wantAnswer(t, parse(t, "begin 1"), 0, budget, by(0, 0), api.OK)
	}
}

// P20.1: ErrArg, if there is no event of that place.
func TestNoEvent(t *testing.T) {
	for _, s := range []string{"begin 1", nobody, pending, skew} {
		h := parse(t, s)
		for _, i := range []int{-1, -2, math.MinInt, math.MinInt32, len(h), len(h) + 1, 60, 1 << 32, math.MaxInt} {
			wantAnswer(t, h, i, enough, api.Found{}, api.ErrArg)
			wantAnswer(t, append(h, event(api.EWrote, 1)), i, enough, api.Found{}, api.ErrForm)
		}
		wantAnswer(t, h, 0, enough, by(0, 0), api.OK)
	}
	for _, i := range []int{-1, 0, 1} {
		wantAnswer(t, nil, i, enough, api.Found{}, api.ErrArg)
	}
	// Room behind the events has none.
	wantAnswer(t, parse(t, nobody)[:2], 2, enough, api.Found{}, api.ErrArg)
}

// P20.1, P20.2: the errors are those of serial.Search of all events, though those up to a place are well formed, and one of them is not possible.
func TestErrors(t *testing.T) {
	seven := parse(t, nobody)
	for tx := range api.MaxTx {
		seven = append(seven, event(api.EBegin, 10+tx))
	}
	for _, h := range [][]api.Event{
		nil, seven, seven[:len(seven)-1], parse(t, skew), parse(t, skew)[1:],
		{event(api.EBegun, 0)}, append(parse(t, nobody), event(api.EBegun, 1)), append(parse(t, skew), event(api.EBegun, 3)),
		append(parse(t, nobody), event(api.EKinds, 1)), append(parse(t, nobody), event(api.EBegin, -1)),
		append(parse(t, nobody), api.Event{Kind: api.ERead, Tx: 1, Var: 8}), make([]api.Event, api.MaxEvents), make([]api.Event, api.MaxEvents+1),
	} {
		for _, budget := range []int{-1, 0, 1, enough, api.MaxBudget, api.MaxBudget + 1} {
			_, searched := serial.Search(h, budget)
			c, err := early.Check(h, budget)
			if err != searched || err != api.OK && !isSameTrace(c, api.Trace{}) {
				t.Errorf("Check(%v, %d) = %v, %d; Search: %d", h, budget, c, err, searched)
			}
			for i := range h {
				f, err := early.Answer(h, i, budget)
				if err != searched || err != api.OK && !isSame(f, api.Found{}) {
					t.Errorf("Answer(%v, %d, %d) = %v, %d; Search: %d", h, i, budget, f, err, searched)
				}
			}
		}
	}
}

// P20.2: Like tells whether the verdict, the length, what made each event possible, and the steps are the same.
func TestLike(t *testing.T) {
	wantLike := func(a, b api.Trace, want bool) {
		t.Helper()
		if early.Like(a, b) != want || early.Like(b, a) != want {
			t.Errorf("Like(%v, %v) is not %v", a, b, want)
		}
	}
	a := func() api.Trace {
		return api.Trace{Verdict: api.VNo, At: 3, Own: []api.Found{by(1, 2, 0), by(2, 3, 1)}, Steps: 7}
	}
	wantLike(a(), a(), true)
	for _, change := range []func(*api.Trace){
		func(c *api.Trace) { c.Verdict = api.VYes },
		func(c *api.Trace) { c.Verdict = 3 },
		func(c *api.Trace) { c.At = 2 },
		func(c *api.Trace) { c.At = math.MinInt },
		func(c *api.Trace) { c.Own = nil },
		func(c *api.Trace) { c.Own = c.Own[:1] },
		func(c *api.Trace) { c.Own = append(c.Own, api.Found{}) },
		func(c *api.Trace) { c.Own[0], c.Own[1] = c.Own[1], c.Own[0] },
		func(c *api.Trace) { c.Own[0].Verdict = api.VNo },
		func(c *api.Trace) { c.Own[0].Commits = 1 | 1<<31 },
		func(c *api.Trace) { c.Own[1].Row = nil },
		func(c *api.Trace) { c.Own[1].Row = []int{0} },
		func(c *api.Trace) { c.Own[1].Row = []int{1, 1} },
		func(c *api.Trace) { c.Own[1].Steps = 2 },
		func(c *api.Trace) { c.Steps = 8 },
		func(c *api.Trace) { c.Steps = math.MaxInt },
	} {
		b := a()
		change(&b)
		wantLike(a(), b, false)
		wantLike(b, b, true)
	}
	wantLike(api.Trace{}, api.Trace{}, true)
	wantLike(api.Trace{}, api.Trace{Own: []api.Found{}}, true)
	wantLike(api.Trace{Own: []api.Found{{}}}, api.Trace{Own: []api.Found{{Row: []int{}}}}, true)
	wantLike(api.Trace{}, api.Trace{Own: []api.Found{{}}}, false)
}

// P20.1, P20.2: what is answered is new memory, no two lists of it share any, and it hangs on what is handed in alone.
func TestNewMemory(t *testing.T) {
	h := parse(t, beside+both+";read 3 1;got 3 1;read 3 2;got 3 2;commit 3;committed 3")
	told := map[int]api.Found{16: by(1, 1, 0), 17: by(3, 1, 0, 1), 19: by(1, 2, 0), 21: by(3, 4, 0, 1), 23: by(7, 1, 0, 1, 2)}
	for _, i := range []int{7, 9, 11, 13} {
		told[i] = by(0, 1)
	}
	whole := trace(api.VYes, 24, 4+1+1+2+4+1, told)
	for range 3 {
		c, err := early.Check(h, enough)
		if err != api.OK || !isSameTrace(c, whole) {
			t.Fatal(c, err)
		}
		for i := range c.Own {
			if !isSame(c.Own[i], whole.Own[i]) {
				t.Fatal(i, c)
			}
			_ = append(c.Own[i].Row, 7)
			for k := range c.Own[i].Row {
				c.Own[i].Row[k] = 8
			}
		}
		f, err := early.Answer(h, 21, 4)
		if err != api.OK || !isSame(f, by(3, 4, 0, 1)) {
			t.Fatal(f, err)
		}
		f.Row[0], f.Row[1] = 9, 9
		wantAnswer(t, h, 21, 3, unknown(3), api.OK)
		wantAnswer(t, h[:20:20], 19, 3, by(1, 2, 0), api.OK)
		want(t, h[:17], 1, api.Trace{At: 17, Own: whole.Own[:17], Steps: 5}, api.OK)
	}
}

// P20.1, P20.3: the limits: six transactions, all sets and rows of which are gone through, and still nothing is unknown.
func TestSix(t *testing.T) {
	// Sets of n of five have n! rows each; with one more in each there are (n+1)! rows.
	wantLast(t, six+";read 5 0;got 5 9", no(1+5+10*2+10*6+5*24+120))
	wantLast(t, six+";read 5 0;got 5 9;commit 5;committed 5", no(1+5*2+10*6+10*24+5*120+720))
	wantLast(t, six+";read 5 0;got 5 9;commit 5;aborted 5", by(0, 1))
	done := six + ";committed 0;committed 1;committed 2;committed 3;committed 4"
	wantLast(t, done, by(31, 1, 0, 1, 2, 3, 4))
	wantLast(t, done+";read 5 0;got 5 9", no(326))
	wantLast(t, done+";read 5 0;got 5 9;commit 5;committed 5", no(720))
	wantLast(t, done+";read 5 0;got 5 9;commit 5;aborted 5", by(31, 1, 0, 1, 2, 3, 4))
	// One that is committed read what nobody wrote: it is in each set of one that is aborted, with n of four others.
	h := strings.Replace(six, "write 4 0 1;wrote 4", "read 4 0;got 4 9", 1) + ";commit 5;committed 4"
	wantLast(t, h+";aborted 5", no(1+4*2+6*6+4*24+120))
	wantLast(t, six+";commit 5;committed 5", by(32, 1, 5))
	want(t, append(parse(t, six), event(api.EBegin, 6)), enough, api.Trace{}, api.ErrArg)
}

// P20.1, P20.2: the limits: 60 events.
func TestLimits(t *testing.T) {
	s := "begin 1;begun 1"
	told := map[int]api.Found{}
	for n := range 29 {
		s += ";read 1 7;got 1 0"
		told[2*n+3] = by(0, 1)
	}
	wantTrace(t, s, trace(api.VYes, 60, 29, told))
	delete(told, 59)
	wantTrace(t, strings.TrimSuffix(s, "0")+"1", trace(api.VNo, 60, 29, told))
	h := append(parse(t, s), event(api.EBegin, 2))
	want(t, h, enough, api.Trace{}, api.ErrArg)
	wantAnswer(t, h, 0, enough, api.Found{}, api.ErrArg)
}

// moment is an event of some events, with all that the words ask of it.
type moment struct {
	h          []api.Event
	i, t       int
	done, open uint32
	before     [api.MaxTx][api.MaxTx]bool
	size       int
}

// momentOf is that of an event.
func momentOf(t *testing.T, h []api.Event, i int) moment {
	t.Helper()
	part := slices.Clone(h[:i+1])
	m := moment{h: part, i: i}
	txns, err := table.Table(part)
	if err != api.OK {
		t.Fatal(part, err)
	}
	m.size = len(txns)
	for k, txn := range txns {
		if txn.Name == h[i].Tx {
			m.t = k
		}
		for other := range txns {
			yes, err := order.Before(part, k, other)
			if err != api.OK {
				t.Fatal(part, k, other, err)
			}
			m.before[k][other] = yes
		}
	}
	ahead, err := table.Table(slices.Clone(h[:i]))
	if err != api.OK {
		t.Fatal(h[:i], err)
	}
	for k, txn := range ahead {
		switch txn.State {
		case api.SCommitted:
			m.done |= 1 << k
		case api.SPending:
			m.open |= 1 << k
		}
	}
	return m
}

// has tells whether a set has a place.
func has(set uint32, place int) bool {
	return set>>place&1 == 1
}

// isClosed tells whether a set is closed for the transaction, by the words.
func (m moment) isClosed(set uint32) bool {
	if has(set, m.t) {
		return false
	}
	for x := range m.size {
		isAhead := m.before[x][m.t]
		for k := range m.size {
			isAhead = isAhead || has(set, k) && m.before[x][k]
		}
		if x != m.t && isAhead && has(set, x) != has(m.done, x) {
			return false
		}
	}
	return true
}

// fits tells whether a set fits the event, by the words.
func (m moment) fits(set uint32) bool {
	if set&^(m.done|m.open) != 0 {
		return false
	}
	switch m.h[m.i].Kind {
	case api.ECommitted:
		return set&m.done == m.done && has(set, m.t)
	case api.EAborted:
		return set&m.done == m.done && !has(set, m.t)
	}
	for k := range m.size {
		if has(set, k) && m.before[m.t][k] {
			return false
		}
	}
	return m.isClosed(set)
}

// rows are the rows of a set that keep the order, each behind a row that is there.
func (m moment) rows(row []int, set uint32) [][]int {
	if set == 0 {
		return [][]int{row}
	}
	var all [][]int
	for place := range m.size {
		if !has(set, place) {
			continue
		}
		isFree := !slices.ContainsFunc(row, func(ahead int) bool { return m.before[place][ahead] })
		if isFree {
			all = append(all, m.rows(append(slices.Clone(row), place), set&^(1<<place))...)
		}
	}
	return all
}

// tells tells whether a row of a set tells the event.
func (m moment) tells(t *testing.T, set uint32, row []int) bool {
	t.Helper()
	if kind := m.h[m.i].Kind; kind == api.EGot || kind == api.EWrote {
		row = append(slices.Clone(row), m.t)
	}
	n, err := legal.Legal(m.h, row, set)
	if err != api.OK {
		t.Fatal(m.h, row, set, err)
	}
	return n == len(row)
}

// answer is what is found of the event, by the words, without a limit to its steps.
func (m moment) answer(t *testing.T) api.Found {
	t.Helper()
	if !slices.Contains(told(), m.h[m.i].Kind) {
		return by(0, 0)
	}
	steps := 0
	for set := range uint32(1) << m.size {
		if !m.fits(set) {
			continue
		}
		for _, row := range m.rows(nil, set) {
			steps++
			if m.tells(t, set, row) {
				return by(set, steps, row...)
			}
		}
	}
	return no(steps)
}

// answers are what is found of each event, by the words.
func answers(t *testing.T, h []api.Event) []api.Found {
	t.Helper()
	var all []api.Found
	for i := range h {
		all = append(all, momentOf(t, h, i).answer(t))
	}
	return all
}

// defined is what a check finds, by the words, of what is found of each event.
func defined(all []api.Found, budget int) api.Trace {
	c := api.Trace{Verdict: api.VYes, At: len(all)}
	for i, f := range all {
		if f.Steps > budget {
			f = unknown(budget)
		}
		c.Steps += f.Steps
		if f.Verdict != api.VYes {
			c.Verdict, c.At = f.Verdict, i+1
			return c
		}
		c.Own = append(c.Own, f)
	}
	return c
}

// wantDefined holds both calls to the words, and tells what is found of each event.
func wantDefined(t *testing.T, h []api.Event) []api.Found {
	t.Helper()
	all := answers(t, h)
	most := 0
	for i, f := range all {
		wantEach(t, h, i, f)
		// What is behind an event changes nothing of it.
		wantAnswer(t, h[:i+1], i, enough, f, api.OK)
		most = max(most, f.Steps)
	}
	for _, budget := range []int{0, 1, 2, most / 2, most - 1, most, most + 1, enough, api.MaxBudget} {
		if budget >= 0 {
			want(t, h, budget, defined(all, budget), api.OK)
		}
	}
	return all
}

// isOpaque tells whether events are opaque, and holds what is found of them to that: what is opaque is possible, event by event.
func isOpaque(t *testing.T, h []api.Event, c api.Trace) bool {
	t.Helper()
	o, err := opaque.Check(h, 125184)
	if err != api.OK || o.Verdict == api.VUnknown || c.Verdict == api.VUnknown {
		t.Fatal(h, o, err, c)
	}
	if c.Verdict == api.VNo && (o.Verdict != api.VNo || o.At > c.At) {
		t.Fatalf("%v: opaque.Check: %v; Check: %v", h, o, c)
	}
	return o.Verdict == api.VYes
}

// wantPrefixes holds Check to that each prefix tells what the whole does, as far as it goes.
func wantPrefixes(t *testing.T, h []api.Event, c api.Trace) {
	t.Helper()
	for n := range len(h) + 1 {
		p, err := early.Check(h[:n], enough)
		if err != api.OK {
			t.Fatal(h[:n], err)
		}
		if c.Verdict == api.VNo && n >= c.At {
			if !isSameTrace(p, c) {
				t.Fatal(h[:n], p, c)
			}
			continue
		}
		if p.Verdict != api.VYes || p.At != n || !slices.EqualFunc(p.Own, c.Own[:n], isSame) {
			t.Fatal(h[:n], p, c)
		}
	}
}

// likely is one of the kinds that may come next of a transaction: those of even names write, of odd ones read, mostly; after one to three Ops it asks to commit; it is seldom cancelled or aborted before that.
func likely(h []api.Event, tx int, kinds []int, next func(int) int) int {
	if kinds[0] == api.ECommitted {
		return kinds[next(3)/2]
	}
	if next(20) == 0 {
		// The last one of several is what aborts.
		return kinds[len(kinds)-1]
	}
	if kinds[0] != api.ERead {
		return kinds[0]
	}
	asked := 0
	for _, e := range h {
		if e.Tx == tx && (e.Kind == api.ERead || e.Kind == api.EWrite) {
			asked++
		}
	}
	if asked > next(3) {
		return api.ECommit
	}
	if (next(5) > 0) == (tx%2 == 1) {
		return api.ERead
	}
	return api.EWrite
}

// seen is a value that a transaction that asked to read may have read: its own, or one of those that asked to commit, or 0; seldom nobody's.
func seen(h []api.Event, tx int, next func(int) int) int {
	if next(80) == 0 {
		return 99
	}
	variable := 0
	for _, e := range h {
		if e.Tx == tx && e.Kind == api.ERead {
			variable = e.Var
		}
	}
	vals := []int{0}
	for i := len(h) - 1; i >= 0; i-- {
		e := h[i]
		if e.Kind != api.EWrite || e.Var != variable {
			continue
		}
		if e.Tx == tx {
			return e.Val
		}
		if slices.Contains(h, event(api.ECommit, e.Tx)) {
			vals = append(vals, e.Val, e.Val, e.Val)
		}
	}
	return vals[next(len(vals))]
}

// walk are well-formed events that a number tells: at each place one of those that may be there, of some names. Two that write may write the same.
func walk(t *testing.T, number uint32, names, length int) []api.Event {
	t.Helper()
	next := func(n int) int {
		number = number*1664525 + 1013904223
		return int(number >> 16 % uint32(n))
	}
	var h []api.Event
	for range length {
		tx := next(names)
		kinds, err := proper.Next(h, tx)
		if err != api.OK {
			t.Fatal(h, err)
		}
		// Those that write wait for what their commit is answered, so that others may see what they wrote.
		if len(kinds) == 0 || kinds[0] == api.ECommitted && tx%2 == 0 && next(4) > 0 {
			continue
		}
		e := event(likely(h, tx, kinds, next), tx)
		switch e.Kind {
		case api.ERead:
			e.Var = next(2)
		case api.EGot:
			e.Val = seen(h, tx, next)
		case api.EWrite:
			e.Var, e.Val = next(2), 1+next(4)
		}
		h = append(h, e)
	}
	return h
}

// counts are how often what is to be looked at was seen: events that are possible, those that are not, and those that are the first such ones, by their kind; rows of more than one, and those that do not rise; events that are opaque, that are possible alone, and that are neither.
type counts struct {
	possible, broken, first [api.EKinds]int
	several, turned         int
	opaque, early, none     int
}

// add counts what is found of events.
func (c *counts) add(h []api.Event, all []api.Found, isOpaque bool) {
	found := defined(all, enough)
	for i, f := range all {
		if f.Verdict == api.VYes {
			c.possible[h[i].Kind]++
		} else {
			c.broken[h[i].Kind]++
		}
		if len(f.Row) > 1 {
			c.several++
		}
		if !slices.IsSorted(f.Row) {
			c.turned++
		}
	}
	switch {
	case isOpaque:
		c.opaque++
	case found.Verdict == api.VYes:
		c.early++
	default:
		c.none++
		c.first[h[found.At-1].Kind]++
	}
}

// told are the kinds of events that take a step.
func told() []int {
	return []int{api.EGot, api.EWrote, api.ECommitted, api.EAborted}
}

// P20.1, P20.2, P20.3: made traces of up to six transactions: what the words define, and what follows.
func TestWalks(t *testing.T) {
	var c counts
	for number := range uint32(900) {
		h := walk(t, number, 2+int(number%5), 20+int(number%41))
		all := wantDefined(t, h)
		c.add(h, all, isOpaque(t, h, defined(all, enough)))
	}
	for _, kind := range told() {
		if min(c.possible[kind], c.broken[kind]) < 5 {
			t.Errorf("of kind %d: %+v", kind, c)
		}
	}
	if min(c.several, c.turned, c.opaque, c.none) < 30 {
		t.Errorf("what was seen: %+v", c)
	}
}

// nextOf are events with each one more that may be there of some names: of variable 0, and of the values 0 and 7.
func nextOf(t *testing.T, h []api.Event, names ...int) [][]api.Event {
	t.Helper()
	var all [][]api.Event
	for _, tx := range names {
		kinds, err := proper.Next(h, tx)
		if err != api.OK {
			t.Fatal(h, tx, err)
		}
		for _, kind := range kinds {
			all = append(all, append(slices.Clone(h), event(kind, tx)))
			if kind == api.EGot {
				all = append(all, append(slices.Clone(h), api.Event{Kind: kind, Tx: tx, Val: 7}))
			}
			if kind == api.EWrite {
				all[len(all)-1][len(h)].Val = 7
			}
		}
	}
	return all
}

// P20.1, P20.2, P20.3: all that may come, in four events, behind a read of one whose commit is asked: what the words define, and what follows.
func TestAllBehind(t *testing.T) {
	all := [][]api.Event{parse(t, pending)}
	for range 4 {
		var longer [][]api.Event
		for _, h := range all {
			longer = append(longer, nextOf(t, h, 1, 2, 3)...)
		}
		all = longer
	}
	var c counts
	for _, h := range all {
		answers := wantDefined(t, h)
		found := defined(answers, enough)
		c.add(h, answers, isOpaque(t, h, found))
		wantPrefixes(t, h, found)
	}
	for _, kind := range told() {
		if min(c.possible[kind], c.broken[kind], c.first[kind]) < 3 {
			t.Errorf("of kind %d: %+v", kind, c)
		}
	}
	if min(c.opaque, c.early, c.none) < 30 {
		t.Errorf("what was seen: %+v", c)
	}
}

// P20.1, P20.2, P20.3: the events that the other tests go by.
func TestOthers(t *testing.T) {
	for _, s := range []string{"begin 1", nobody, pending, skew, rounds, beside, beside + both, chain, six, pending + ";aborted 1", skew + ";begin 3;begun 3", nobody + ";commit 1;committed 1;begin 2;aborted 2", chain + ";read 3 0;got 3 0;read 3 1;got 3 2"} {
		h := parse(t, s)
		found := defined(wantDefined(t, h), enough)
		isOpaque(t, h, found)
		wantPrefixes(t, h, found)
	}
}
