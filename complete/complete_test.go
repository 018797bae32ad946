package complete_test

import (
	"math"
	"slices"
	"strings"
	"testing"

	"recant/api"
	"recant/complete"
	"recant/order"
	"recant/proper"
	"recant/table"
	"recant/text"
)

// parse are a text's events; a ';' ends a line, too.
func parse(t *testing.T, s string) []api.Event {
	t.Helper()
	h, at, err := text.Parse(strings.ReplaceAll(s, ";", "\n"))
	if err != api.OK {
		t.Fatalf("Parse(%q): %d at %d", s, err, at)
	}
	return h
}

// event is an event without a variable and a value.
func event(kind, tx int) api.Event {
	return api.Event{Kind: kind, Tx: tx}
}

func wantChoices(t *testing.T, h []api.Event, want ...uint32) {
	t.Helper()
	was := slices.Clone(h)
	got, err := complete.Choices(h)
	if err != api.OK || !slices.Equal(got, want) {
		t.Fatalf("Choices(%v) = %b, %d; want %b", h, got, err, want)
	}
	if !slices.Equal(h, was) {
		t.Fatalf("Choices(%v) left %v", was, h)
	}
}

// wantComplete holds Complete to an answer, and the events, with all that the room behind them holds, to what they were.
func wantComplete(t *testing.T, h []api.Event, commits uint32, want []api.Event, err api.Errno) {
	t.Helper()
	was := slices.Clone(h[:cap(h)])
	if got, gotErr := complete.Complete(h, commits); !slices.Equal(got, want) || gotErr != err {
		t.Fatalf("Complete(%v, %b) = %v, %d; want %v, %d", h, commits, got, gotErr, want, err)
	}
	if !slices.Equal(h[:cap(h)], was) {
		t.Fatalf("Complete(%v, %b) left %v", was[:len(h)], commits, h[:cap(h)])
	}
}

// wantMore is wantComplete of what is put behind the events, as text.
func wantMore(t *testing.T, h []api.Event, commits uint32, more string) {
	t.Helper()
	wantComplete(t, h, commits, slices.Concat(h, parse(t, more)), api.OK)
}

// wantNone holds Complete to an error, of each of these numbers.
func wantNone(t *testing.T, h []api.Event, err api.Errno, commits ...uint32) {
	t.Helper()
	for _, number := range commits {
		wantComplete(t, h, number, nil, err)
	}
}

// wantError holds both calls to one error, whatever is chosen.
func wantError(t *testing.T, h []api.Event, err api.Errno) {
	t.Helper()
	was := slices.Clone(h)
	if got, gotErr := complete.Choices(h); len(got) != 0 || gotErr != err {
		t.Fatalf("Choices(%v) = %b, %d; want %d", h, got, gotErr, err)
	}
	if !slices.Equal(h, was) {
		t.Fatalf("Choices(%v) left %v", was, h)
	}
	wantNone(t, h, err, 0, 1, 2, 63, 64, 1<<31, math.MaxUint32)
}

// fates are what may come of a transaction in each completion, as kinds that are put behind it, if it does not commit, and if it does; nil, if it may not be so.
type fates struct {
	name   int
	aborts []int
	commit []int
}

// allFates are those of all transactions, in order of their first events, by what may come next of each.
func allFates(t *testing.T, h []api.Event) []fates {
	t.Helper()
	var all []fates
	for _, e := range h {
		if slices.ContainsFunc(all, func(f fates) bool { return f.name == e.Tx }) {
			continue
		}
		kinds, err := proper.Next(h, e.Tx)
		if err != api.OK {
			t.Fatal(h, err)
		}
		f := fates{name: e.Tx}
		switch {
		case len(kinds) == 0 && slices.Contains(h, event(api.ECommitted, e.Tx)):
			f.commit = []int{}
		case len(kinds) == 0:
			f.aborts = []int{}
		case slices.Contains(kinds, api.ECancel):
			f.aborts = []int{api.ECancel, api.EAborted}
		default:
			f.aborts = []int{api.EAborted}
		}
		if slices.Contains(kinds, api.ECommitted) {
			f.commit = []int{api.ECommitted}
		}
		all = append(all, f)
	}
	return all
}

// defined is the completion of a number, if it is a choice, as the chapter's words define it.
func defined(h []api.Event, all []fates, commits uint32) ([]api.Event, bool) {
	whole := slices.Clone(h)
	for _, f := range all {
		kinds := f.aborts
		if commits%2 == 1 {
			kinds = f.commit
		}
		if kinds == nil {
			return nil, false
		}
		for _, kind := range kinds {
			whole = append(whole, event(kind, f.name))
		}
		commits /= 2
	}
	return whole, commits == 0
}

// wantDefined holds both calls, of all numbers that have a bit for each transaction and two more, to the words; and tells how many are choices.
func wantDefined(t *testing.T, h []api.Event) int {
	t.Helper()
	all := allFates(t, h)
	var choices []uint32
	for commits := range uint32(4) << len(all) {
		whole, ok := defined(h, all, commits)
		switch {
		case !ok:
			wantNone(t, h, api.ErrArg, commits)
			continue
		case len(whole) > api.MaxEvents:
			wantNone(t, h, api.ErrLarge, commits)
		default:
			wantComplete(t, h, commits, whole, api.OK)
			wantFollows(t, h, commits, whole)
		}
		choices = append(choices, commits)
	}
	wantChoices(t, h, choices...)
	return len(choices)
}

// wantFollows holds a completion to what follows.
func wantFollows(t *testing.T, h []api.Event, commits uint32, whole []api.Event) {
	t.Helper()
	if n, err := proper.Check(whole); err != api.OK {
		t.Fatalf("Complete(%v, %b) is not well formed at %d", h, commits, n)
	}
	if !slices.Equal(whole[:len(h)], h) {
		t.Fatalf("Complete(%v, %b) does not begin with the events", h, commits)
	}
	before, _ := table.Table(h)
	txns, _ := table.Table(whole)
	if len(txns) != len(before) {
		t.Fatalf("Complete(%v, %b) has %d transactions", h, commits, len(txns))
	}
	for k, txn := range txns {
		state := api.SAborted
		if commits&(1<<k) != 0 {
			state = api.SCommitted
		}
		if txn.State != state || txn.Name != before[k].Name || !slices.Equal(txn.Ops, before[k].Ops) {
			t.Fatalf("Complete(%v, %b): its transaction %d is %v", h, commits, k, txn)
		}
	}
	was, _ := order.After(h)
	is, _ := order.After(whole)
	for k := range was {
		if was[k]&^is[k] != 0 {
			t.Fatalf("Complete(%v, %b): %d is before %b no more", h, commits, k, was[k])
		}
	}
}

// wellFormed are all rows of well-formed events of these names, up to a length.
func wellFormed(t *testing.T, names []int, length int, see func(h []api.Event)) {
	t.Helper()
	var grow func(h []api.Event)
	grow = func(h []api.Event) {
		see(h)
		if len(h) == length {
			return
		}
		for _, tx := range names {
			kinds, err := proper.Next(h, tx)
			if err != api.OK {
				t.Fatal(h, err)
			}
			for _, kind := range kinds {
				grow(append(slices.Clone(h), event(kind, tx)))
			}
		}
	}
	grow(nil)
}

// P9.1, P9.2: no events have one choice, of none, and no events as its completion.
func TestNone(t *testing.T) {
	for _, h := range [][]api.Event{nil, {}} {
		wantChoices(t, h, 0)
		wantComplete(t, h, 0, nil, api.OK)
		wantNone(t, h, api.ErrArg, 1, 2, 64, 1<<31, math.MaxUint32)
	}
}

// P9.1: the chapter's own example: of those that are pending the third one, and no other.
func TestExample(t *testing.T) {
	h := parse(t, "begin 1;begin 2;begin 3;begun 3;commit 3")
	wantChoices(t, h, 0, 4)
	wantMore(t, h, 0, "aborted 1;aborted 2;aborted 3")
	wantMore(t, h, 4, "aborted 1;aborted 2;committed 3")
	wantNone(t, h, api.ErrArg, 1, 2, 3, 5, 6, 7, 8, 12)
}

// P9.1, P9.2: each way in which a transaction's events may end, behind a first one that is committed.
func TestStates(t *testing.T) {
	for _, c := range []struct{ s, more string }{
		{"begin 4", "aborted 4"},
		{"begin 4;aborted 4", ""},
		{"begin 4;begun 4", "cancel 4;aborted 4"},
		{"begin 4;begun 4;read 4 1", "aborted 4"},
		{"begin 4;begun 4;read 4 1;got 4 -5", "cancel 4;aborted 4"},
		{"begin 4;begun 4;read 4 1;aborted 4", ""},
		{"begin 4;begun 4;write 4 1 -5", "aborted 4"},
		{"begin 4;begun 4;write 4 1 -5;wrote 4", "cancel 4;aborted 4"},
		{"begin 4;begun 4;write 4 1 -5;aborted 4", ""},
		{"begin 4;begun 4;cancel 4", "aborted 4"},
		{"begin 4;begun 4;cancel 4;aborted 4", ""},
		{"begin 4;begun 4;commit 4;aborted 4", ""},
	} {
		h := parse(t, "begin 2;begun 2;commit 2;committed 2;"+c.s)
		wantChoices(t, h, 1)
		wantMore(t, h, 1, c.more)
		wantNone(t, h, api.ErrArg, 0, 2, 3, 4, 5)
	}
	h := parse(t, "begin 2;begun 2;commit 2;committed 2;begin 4;begun 4;commit 4")
	wantChoices(t, h, 1, 3)
	wantMore(t, h, 1, "aborted 4")
	wantMore(t, h, 3, "committed 4")
	wantNone(t, h, api.ErrArg, 0, 2, 4, 5, 7)
	h = append(h, event(api.ECommitted, 4))
	wantChoices(t, h, 3)
	wantMore(t, h, 3, "")
	wantNone(t, h, api.ErrArg, 0, 1, 2, 7)
}

// P9.1: those that are pending stand among others, and the choices rise as numbers.
func TestChoicesAmongOthers(t *testing.T) {
	h := parse(t, "begin 9;begin 8;begin 7;begin 6;begin 5;begin 4;begun 4;begun 5;begun 6;begun 8;begun 9;commit 4;commit 5;commit 6;commit 8;commit 9;aborted 5;committed 8")
	wantChoices(t, h, 2, 3, 10, 11, 34, 35, 42, 43)
	wantMore(t, h, 10, "aborted 9;aborted 7;committed 6;aborted 4")
	wantMore(t, h, 35, "committed 9;aborted 7;aborted 6;committed 4")
	wantNone(t, h, api.ErrArg, 0, 1, 6, 18, 66, 1<<31+2, math.MaxUint32)
	wantDefined(t, h)
}

// P9.1, P9.2: as many as there may be, all of them pending: each number that their bits make.
func TestAllPending(t *testing.T) {
	h := parse(t, "begin 6;begun 6;commit 6;begin 5;begun 5;commit 5;begin 4;begun 4;commit 4;begin 3;begun 3;commit 3;begin 2;begun 2;commit 2;begin 1;begun 1;commit 1")
	var all []uint32
	for number := range uint32(64) {
		all = append(all, number)
	}
	wantChoices(t, h, all...)
	wantNone(t, h, api.ErrArg, 64, 65, 1<<6+63, 1<<16, 1<<31, math.MaxUint32)
	wantDefined(t, h)
}

// P9.2: the ends come in the order of first events, not of names, nor of last events.
func TestCompleteOrder(t *testing.T) {
	h := parse(t, "begin 5;begin 9999;begin 0;begin 7;begun 7;begun 0;read 0 1;begun 9999;begun 5;commit 9999")
	wantMore(t, h, 0, "cancel 5;aborted 5;aborted 9999;aborted 0;cancel 7;aborted 7")
	wantMore(t, h, 2, "cancel 5;aborted 5;committed 9999;aborted 0;cancel 7;aborted 7")
}

// P9.2: a completion has as many events as there may be, or one more, by each way in which it grows.
func TestCompleteLarge(t *testing.T) {
	full := "begin 1;begun 1;" + strings.Repeat("write 1 1 5;wrote 1;", 29)
	cut := func(s string, lines int) string { return strings.Join(strings.Split(s, ";")[:lines], ";") + ";" }
	for _, c := range []struct {
		s       string
		commits uint32
		more    string
		err     api.Errno
	}{
		{cut(full, 58), 0, "cancel 1;aborted 1", api.OK},
		{cut(full, 59), 0, "aborted 1", api.OK},
		{full, 0, "", api.ErrLarge},
		{cut(full, 56) + "begin 2;aborted 2", 0, "cancel 1;aborted 1", api.OK},
		{cut(full, 56) + "begin 2", 0, "cancel 1;aborted 1;aborted 2", api.OK},
		{cut(full, 58) + "begin 2", 0, "", api.ErrLarge},
		{cut(full, 57) + "begin 2", 0, "aborted 1;aborted 2", api.OK},
		{cut(full, 56) + "begin 2;begun 2", 0, "", api.ErrLarge},
		{cut(full, 57) + "begin 2;begun 2", 0, "", api.ErrLarge},
		{cut(full, 58) + "commit 1", 0, "aborted 1", api.OK},
		{cut(full, 58) + "commit 1", 1, "committed 1", api.OK},
		{cut(full, 58) + "commit 1;begin 2", 0, "", api.ErrLarge},
		{cut(full, 58) + "commit 1;begin 2", 1, "", api.ErrLarge},
		{cut(full, 58) + "commit 1;committed 1", 1, "", api.OK},
		{cut(full, 58) + "cancel 1;aborted 1", 0, "", api.OK},
		{cut(full, 58) + "begin 2;aborted 2", 0, "", api.ErrLarge},
	} {
		h := parse(t, c.s)
		if c.err == api.OK {
			wantMore(t, h, c.commits, c.more)
		} else {
			wantNone(t, h, c.err, c.commits)
		}
		wantDefined(t, h)
	}
}

// P9.2: six that each grow by two.
func TestCompleteLargeSix(t *testing.T) {
	h := parse(t, "begin 1;begin 2;begin 3;begin 4;begin 5;begin 6;begun 1;begun 2;begun 3;begun 4;begun 5;begun 6;"+strings.Repeat("read 3 1;got 3 5;", 18))
	if len(h) != 48 {
		t.Fatal(len(h))
	}
	wantMore(t, h, 0, "cancel 1;aborted 1;cancel 2;aborted 2;cancel 3;aborted 3;cancel 4;aborted 4;cancel 5;aborted 5;cancel 6;aborted 6")
	h = append(h, parse(t, "read 3 1;got 3 5")...)
	wantNone(t, h, api.ErrLarge, 0)
	wantChoices(t, h, 0)
}

// P9.2: a number that is no choice goes ahead of a completion that is too large.
func TestCompleteErrorsInOrder(t *testing.T) {
	h := parse(t, "begin 1;begun 1;"+strings.Repeat("write 1 1 5;wrote 1;", 28)+"commit 1;begin 2")
	wantChoices(t, h, 0, 1)
	wantNone(t, h, api.ErrLarge, 0, 1)
	wantNone(t, h, api.ErrArg, 2, 3, 4, 5, 64, 1<<31, math.MaxUint32)
}

// P9.1, P9.2: table.Table's errors go ahead of all others, ErrArg ahead of ErrForm.
func TestErrors(t *testing.T) {
	var seven []api.Event
	for tx := range api.MaxTx + 1 {
		seven = append(seven, event(api.EBegin, tx))
	}
	wantDefined(t, seven[:api.MaxTx])
	wantError(t, seven, api.ErrArg)
	wantError(t, make([]api.Event, api.MaxEvents), api.ErrForm)
	wantError(t, make([]api.Event, api.MaxEvents+1), api.ErrArg)
	wantError(t, []api.Event{event(api.EBegun, 0)}, api.ErrForm)
	wantError(t, []api.Event{event(api.EBegin, 1), event(api.ECommit, 1)}, api.ErrForm)
	wantError(t, []api.Event{event(api.EBegin, 1), event(api.EAborted, 1), event(api.EBegin, 1)}, api.ErrForm)
	wantError(t, []api.Event{event(api.EBegin, 1), event(api.EAborted, 2)}, api.ErrForm)
	wantError(t, []api.Event{event(api.EBegin, -1)}, api.ErrArg)
	wantError(t, []api.Event{event(api.EBegin, api.MaxName+1)}, api.ErrArg)
	wantError(t, []api.Event{event(api.EKinds, 1)}, api.ErrArg)
	wantError(t, []api.Event{event(api.EBegun, 1), event(-1, 1)}, api.ErrArg)
	wantError(t, []api.Event{{Kind: api.EBegin, Val: 1}}, api.ErrArg)
}

// P9.1, P9.2, P9.3: all rows of two transactions' events, of all kinds, up to a length: what the words define, and what follows.
func TestAllRows(t *testing.T) {
	seen, several := 0, 0
	wellFormed(t, []int{8, 3}, 7, func(h []api.Event) {
		seen++
		if wantDefined(t, h) > 1 {
			several++
		}
	})
	if seen < 500 || several < 100 {
		t.Error("rows of events:", seen, several)
	}
}

// P9.1, P9.2, P9.3: and of three.
func TestAllRowsOfThree(t *testing.T) {
	seen := 0
	wellFormed(t, []int{5, 9999, 0}, 5, func(h []api.Event) {
		seen++
		wantDefined(t, h)
	})
	if seen < 500 {
		t.Error("rows of events:", seen)
	}
}

// P9.3: a completion has one choice left, and is its own completion.
func TestCompletionOfCompletion(t *testing.T) {
	h := parse(t, "begin 9;begin 8;begin 7;begun 7;begun 8;begun 9;commit 8;commit 9")
	for _, commits := range []uint32{0, 1, 2, 3} {
		whole, err := complete.Complete(h, commits)
		if err != api.OK {
			t.Fatal(commits, err)
		}
		wantChoices(t, whole, commits)
		wantComplete(t, whole, commits, whole, api.OK)
	}
}

// R4: what is handed in with room behind its end keeps what stands there.
func TestCompleteBehindEnd(t *testing.T) {
	h := parse(t, "begin 1;begun 1;commit 1;begin 2;begun 2;read 2 1;got 2 5;cancel 2")
	wantMore(t, h[:3], 1, "committed 1")
	wantMore(t, h[:3], 0, "aborted 1")
	wantMore(t, h[:5], 1, "committed 1;cancel 2;aborted 2")
	wantComplete(t, h[:0], 0, nil, api.OK)
}

// R1, R4: an answer is the caller's own, also where nothing is put behind the events: what is written into it changes nothing else.
func TestAnswersAreNew(t *testing.T) {
	for _, s := range []string{"begin 1;aborted 1", "begin 1;begin 2", "begin 1;begun 1;commit 1"} {
		h := parse(t, s)
		was := slices.Clone(h)
		wantL, _ := complete.Choices(h)
		wantC, _ := complete.Complete(h, 0)
		l, c := slices.Clone(wantL), slices.Clone(wantC)
		_ = append(wantC[:1], event(77, 77))
		clear(wantL)
		clear(wantC)
		if !slices.Equal(h, was) {
			t.Errorf("%v: a change of Complete's answer is one of the events", was)
		}
		wantChoices(t, h, l...)
		wantComplete(t, h, 0, c, api.OK)
	}
}
