package unique_test

import (
	"math"
	"slices"
	"strings"
	"testing"

	"recant/api"
	"recant/proper"
	"recant/table"
	"recant/text"
	"recant/unique"
)

// first and nobody are short for what stands for no transaction.
const (
	first  = api.FromFirst
	nobody = api.FromNobody
)

// parse are a text's events; a ';' ends a line, too.
func parse(t *testing.T, s string) []api.Event {
	t.Helper()
	h, at, err := text.Parse(strings.ReplaceAll(s, ";", "\n"))
	if err != api.OK {
		t.Fatalf("Parse(%q): %d at %d", s, err, at)
	}
	return h
}

// event is an event without a variable and a value.
func event(kind, tx int) api.Event {
	return api.Event{Kind: kind, Tx: tx}
}

// read and write are Ops of a variable and a value.
func read(variable, val int) api.Op {
	return api.Op{Var: variable, Val: val}
}

func write(variable, val int) api.Op {
	return api.Op{Write: true, Var: variable, Val: val}
}

// transaction are a name's events that read and write so.
func transaction(name int, ops ...api.Op) []api.Event {
	h := []api.Event{event(api.EBegin, name), event(api.EBegun, name)}
	for _, op := range ops {
		if op.Write {
			h = append(h, api.Event{Kind: api.EWrite, Tx: name, Var: op.Var, Val: op.Val}, event(api.EWrote, name))
		} else {
			h = append(h, api.Event{Kind: api.ERead, Tx: name, Var: op.Var}, api.Event{Kind: api.EGot, Tx: name, Val: op.Val})
		}
	}
	return h
}

// want holds both calls to their answers, and the events to what they were.
func want(t *testing.T, h []api.Event, sources [][]int, err api.Errno) {
	t.Helper()
	was := slices.Clone(h[:cap(h)])
	if got := unique.Check(h); got != err {
		t.Fatalf("Check(%v) = %d; want %d", h, got, err)
	}
	got, gotErr := unique.Sources(h)
	if !slices.EqualFunc(got, sources, slices.Equal[[]int]) || gotErr != err {
		t.Fatalf("Sources(%v) = %v, %d; want %v, %d", h, got, gotErr, sources, err)
	}
	if !slices.Equal(h[:cap(h)], was) {
		t.Fatalf("%v are left as %v", was, h[:cap(h)])
	}
}

// wantSources holds a text's events to the sources of each transaction.
func wantSources(t *testing.T, s string, sources ...[]int) {
	t.Helper()
	want(t, parse(t, s), sources, api.OK)
}

// wantTwice holds a text's events to values that are not unique.
func wantTwice(t *testing.T, s string) {
	t.Helper()
	want(t, parse(t, s), nil, api.ErrTwice)
}

// P16.1: no events have no sources; transactions without an Op have an empty row each.
func TestNone(t *testing.T) {
	want(t, nil, nil, api.OK)
	want(t, []api.Event{}, nil, api.OK)
	wantSources(t, "begin 1", nil)
	wantSources(t, "begin 3;begun 3;read 3 0", nil)
	wantSources(t, "begin 3;begun 3;write 3 0 5", nil)
	wantSources(t, "begin 3;begin 2;begun 2;commit 2;begin 9;aborted 9", nil, nil, nil)
	wantSources(t, "begin 3;begin 2;begun 2;read 2 7;got 2 0", nil, []int{first})
}

// P16.1: the chapter's own example, and the same with the reader ahead.
func TestExample(t *testing.T) {
	wantSources(t, "begin 1;begun 1;write 1 0 5;wrote 1;begin 2;begun 2;read 2 0;got 2 5", []int{0}, []int{0})
	wantSources(t, "begin 2;begun 2;read 2 0;got 2 5;begin 1;begun 1;write 1 0 5;wrote 1", []int{1}, []int{1})
}

// P16.1: each kind of source, side by side.
func TestEachSource(t *testing.T) {
	h := slices.Concat(
		transaction(9, read(0, 0), read(0, 5), read(0, 6), write(0, 7), read(0, 7), read(0, 0), read(0, 5), read(1, 8)),
		transaction(0, write(0, 5), read(0, 5), read(1, 0), read(0, 7), read(1, 5), write(1, 8), write(0, 5)),
		transaction(5, read(1, 8), read(0, 7), read(0, 5), read(1, 7), read(1, 0)),
	)
	want(t, h, [][]int{
		{first, 1, nobody, 0, 0, 0, 0, 1},
		{1, 1, first, 1, nobody, 1, 1},
		{1, 0, 1, nobody, first},
	}, api.OK)
}

// P16.1: a read of a variable that the transaction itself wrote ahead of it is of its own, whatever the value: its own, an older one of its own, the first one, another one's, nobody's.
func TestOwnWrites(t *testing.T) {
	for _, val := range []int{5, 4, 0, 8, 9, -1, -2, math.MaxInt32, math.MinInt32} {
		h := slices.Concat(transaction(1, write(2, 8)), transaction(2, write(2, 4), write(2, 5), read(2, val), read(3, 0), read(2, val)))
		want(t, h, [][]int{{0}, {1, 1, 1, first, 1}}, api.OK)
	}
}

// P16.1: what the transaction itself writes only behind its read is nobody's, and a write of another variable is none of this one.
func TestOwnLaterWrites(t *testing.T) {
	want(t, transaction(1, read(2, 5), write(2, 5), read(2, 5)), [][]int{{nobody, 0, 0}}, api.OK)
	want(t, transaction(1, read(2, 0), write(2, 5), read(2, 0)), [][]int{{first, 0, 0}}, api.OK)
	want(t, transaction(1, write(3, 5), read(2, 5), write(2, 5)), [][]int{{0, nobody, 0}}, api.OK)
	want(t, transaction(1, write(3, 5), read(2, 5), read(3, 5)), [][]int{{0, nobody, 0}}, api.OK)
	h := slices.Concat(transaction(1, read(2, 6), write(2, 5)), transaction(2, read(2, 5), write(2, 6)))
	want(t, h, [][]int{{1, 0}, {0, 1}}, api.OK)
	// A write that is asked, and not answered as yet, or never, is none.
	wantSources(t, "begin 1;begun 1;write 1 2 5;begin 2;begun 2;read 2 2;got 2 5", nil, []int{nobody})
	wantSources(t, "begin 1;begun 1;write 1 2 5;begin 2;begun 2;read 2 2;got 2 5;wrote 1", []int{0}, []int{0})
	wantSources(t, "begin 1;begun 1;write 1 2 5;begin 2;begun 2;read 2 2;got 2 5;aborted 1", nil, []int{nobody})
}

// P16.1: a writer is one in each state that it may be in, and whenever it begins and ends.
func TestStates(t *testing.T) {
	for _, end := range []string{"", "commit 1", "commit 1;committed 1", "commit 1;aborted 1", "cancel 1", "cancel 1;aborted 1", "read 1 0", "read 1 0;aborted 1", "write 1 3 8", "write 1 3 8;aborted 1"} {
		writer := "begin 1;begun 1;write 1 3 5;wrote 1;" + end
		reader := "begin 2;begun 2;read 2 3;got 2 5;read 2 3;got 2 8"
		wantSources(t, writer+"\n"+reader, []int{0}, []int{0, nobody})
		wantSources(t, reader+"\n"+writer, []int{1, nobody}, []int{1})
		wantTwice(t, writer+"\nbegin 2;begun 2;write 2 3 5;wrote 2")
		wantTwice(t, "begin 2;begun 2;write 2 3 5;wrote 2;"+writer)
		wantSources(t, writer+"\nbegin 2;begun 2;write 2 3 5", []int{0}, nil)
		wantSources(t, writer+"\nbegin 2;begun 2;write 2 3 5;aborted 2", []int{0}, nil)
	}
}

// P16.1: sources are told by places, not by names, nor by ends.
func TestPlaces(t *testing.T) {
	wantSources(t, "begin 9;begin 0;begin 5;begun 0;write 0 4 -3;wrote 0;commit 0;committed 0;begun 5;read 5 4;got 5 -3;begun 9;write 9 4 8;wrote 9;read 5 4;got 5 8;commit 9;committed 9;commit 5;committed 5",
		[]int{0}, []int{1}, []int{1, 0})
}

// P16.1: each value of each variable is one of its own, the least and the greatest one, and those that stand for no transaction, too.
func TestValues(t *testing.T) {
	vals := []int{1, -1, -2, 2, 8, 9, math.MaxInt32, math.MinInt32}
	var none, all []api.Op
	var nobodies, zeros, ones []int
	for variable := range api.MaxVar + 1 {
		h := slices.Concat(transaction(1, write(variable, vals[variable])), transaction(2))
		sources := [][]int{{0}, nil}
		for other := range api.MaxVar + 1 {
			for _, val := range vals {
				source := nobody
				if other == variable && val == vals[variable] {
					source = 0
				}
				reader := transaction(3, read(other, val))
				want(t, append(slices.Clone(h), reader...), append(slices.Clone(sources), []int{source}), api.OK)
				writer := slices.Concat(h, transaction(3, write(other, val), read(other, val)))
				if source == nobody {
					want(t, writer, append(slices.Clone(sources), []int{2, 2}), api.OK)
				} else {
					want(t, writer, nil, api.ErrTwice)
				}
			}
		}
		none = append(none, read(variable, vals[7-variable]))
		all = append(all, read(variable, vals[variable]))
		nobodies, zeros, ones = append(nobodies, nobody), append(zeros, 0), append(ones, 1)
	}
	var writes []api.Op
	for _, op := range all {
		writes = append(writes, write(op.Var, op.Val))
	}
	want(t, slices.Concat(transaction(1, writes...), transaction(2, none...), transaction(3, all...)), [][]int{zeros, nobodies, zeros}, api.OK)
	want(t, slices.Concat(transaction(2, none...), transaction(1, writes...), transaction(3, all...)), [][]int{nobodies, ones, ones}, api.OK)
}

// P16.1: no Op writes 0, of any variable, in any transaction, wherever among its Ops; one that is only asked is no Op.
func TestZero(t *testing.T) {
	for variable := range api.MaxVar + 1 {
		zero := write(variable, 0)
		want(t, transaction(1, zero), nil, api.ErrTwice)
		want(t, transaction(1, write(variable, 5), zero), nil, api.ErrTwice)
		want(t, transaction(1, write(variable, 5), read(3, 7), zero, write(variable, 6)), nil, api.ErrTwice)
		want(t, slices.Concat(transaction(1), transaction(2, write(variable, 5)), transaction(3, read(variable, 5), zero)), nil, api.ErrTwice)
		want(t, slices.Concat(transaction(1, zero), transaction(2, zero)), nil, api.ErrTwice)
		asked := api.Event{Kind: api.EWrite, Tx: 1, Var: variable}
		want(t, append(transaction(1), asked), [][]int{nil}, api.OK)
		want(t, append(transaction(1), asked, event(api.EAborted, 1)), [][]int{nil}, api.OK)
		want(t, append(transaction(1), asked, event(api.EWrote, 1)), nil, api.ErrTwice)
	}
	want(t, transaction(1, read(0, 0)), [][]int{{first}}, api.OK)
}

// P16.1: one transaction may write a value as often as it likes; another one may not, side by side or apart, though it wrote others ahead.
func TestTwice(t *testing.T) {
	want(t, transaction(1, write(2, 5), write(2, 5), write(2, 6), write(2, 5)), [][]int{{0, 0, 0, 0}}, api.OK)
	want(t, slices.Concat(transaction(1, write(2, 5)), transaction(2, write(3, 5)), transaction(3, write(2, 4))), [][]int{{0}, {1}, {2}}, api.OK)
	want(t, slices.Concat(transaction(1, write(2, 5)), transaction(2, write(2, 5))), nil, api.ErrTwice)
	want(t, slices.Concat(transaction(1, write(2, 5), write(2, 5)), transaction(2), transaction(3, write(2, 4), write(2, 5), write(2, 3))), nil, api.ErrTwice)
	want(t, slices.Concat(transaction(1, write(2, 5), write(2, 6)), transaction(2), transaction(3, write(3, 5), write(2, 5))), nil, api.ErrTwice)
	want(t, slices.Concat(transaction(1, write(2, 5), write(2, 6)), transaction(3, write(2, 4)), transaction(2, read(2, 6), write(2, 6))), nil, api.ErrTwice)
	// What is only read is not written.
	want(t, slices.Concat(transaction(1, write(2, 5)), transaction(2, read(2, 5)), transaction(3, read(2, 5))), [][]int{{0}, {0}, {0}}, api.OK)
}

// P16.1: as many transactions as there may be, and as many events.
func TestLimits(t *testing.T) {
	var h []api.Event
	var sources [][]int
	for i := range api.MaxTx {
		h = append(h, transaction(i, write(0, i+1), read(1, i+2), write(1, i+1), read(1, i+2))...)
		sources = append(sources, []int{i, i + 1, i, i})
	}
	sources[5][1] = nobody
	if len(h) != api.MaxEvents {
		t.Fatal(len(h))
	}
	want(t, h, sources, api.OK)
	want(t, append(slices.Clone(h), event(api.ECommit, 0)), nil, api.ErrArg)
	h[52].Val = 1
	want(t, h, nil, api.ErrTwice)
}

// P16.1: table.Table's errors go ahead of values that are not unique, ErrArg ahead of ErrForm.
func TestErrors(t *testing.T) {
	var seven []api.Event
	for tx := range api.MaxTx + 1 {
		seven = append(seven, event(api.EBegin, tx))
	}
	same := slices.Concat(transaction(1, write(2, 5)), transaction(2, write(2, 5), write(2, 0)))
	want(t, same, nil, api.ErrTwice)
	for _, c := range []struct {
		more []api.Event
		err  api.Errno
	}{
		{seven, api.ErrArg},
		{make([]api.Event, api.MaxEvents), api.ErrArg},
		{[]api.Event{event(api.EBegun, 0)}, api.ErrForm},
		{[]api.Event{event(api.EBegin, 1)}, api.ErrForm},
		{[]api.Event{event(api.EWrote, 1)}, api.ErrForm},
		{[]api.Event{event(api.EBegun, 0), event(api.EKinds, 1)}, api.ErrArg},
		{[]api.Event{event(api.EBegin, -1)}, api.ErrArg},
		{[]api.Event{{Kind: api.ERead, Tx: 1, Var: 8}}, api.ErrArg},
		{[]api.Event{{Kind: api.EWrite, Tx: 1, Val: math.MaxInt32 + 1}}, api.ErrArg},
	} {
		want(t, slices.Concat(same, c.more), nil, c.err)
		want(t, slices.Concat(transaction(1, write(2, 5)), c.more), nil, c.err)
	}
	want(t, make([]api.Event, api.MaxEvents), nil, api.ErrForm)
	want(t, make([]api.Event, api.MaxEvents+1), nil, api.ErrArg)
	for _, i := range []int{0, 1, 2} {
		want(t, slices.Delete(slices.Clone(same), i, i+1), nil, api.ErrForm)
	}
}

// P16.1, R1, R4: what is answered is new: to change it changes no other row, and no later answer.
func TestNew(t *testing.T) {
	h := slices.Concat(transaction(1, write(0, 5)), transaction(2, read(0, 5)), transaction(3, read(0, 5), write(0, 6)), transaction(4, read(0, 6)))
	sources := [][]int{{0}, {0}, {0, 2}, {2}}
	a, err := unique.Sources(h)
	if err != api.OK {
		t.Fatal(err)
	}
	for i := range a {
		a[i][0] = 7
		a[i] = append(a[i], 8, 9)
	}
	if a[0][0] != 7 || a[0][1] != 8 || a[2][1] != 2 || a[2][2] != 8 || a[3][0] != 7 {
		t.Fatal(a)
	}
	want(t, h, sources, api.OK)
}

// writesOf tells whether a transaction's Ops write a value of a variable.
func writesOf(ops []api.Op, variable, val int) bool {
	return slices.Contains(ops, write(variable, val))
}

// definedUnique tells whether values are unique, as the chapter's words define it: of each two transactions, what both write.
func definedUnique(txns []api.Txn) bool {
	for i, a := range txns {
		for _, op := range a.Ops {
			if !op.Write {
				continue
			}
			if op.Val == 0 {
				return false
			}
			for k, b := range txns {
				if k != i && writesOf(b.Ops, op.Var, op.Val) {
					return false
				}
			}
		}
	}
	return true
}

// definedSource is the source of an Op, by the words.
func definedSource(txns []api.Txn, t, n int) int {
	op := txns[t].Ops[n]
	isWritten := func(ahead api.Op) bool { return ahead.Write && ahead.Var == op.Var }
	if op.Write || slices.ContainsFunc(txns[t].Ops[:n], isWritten) {
		return t
	}
	if op.Val == 0 {
		return first
	}
	for k, other := range txns {
		if k != t && writesOf(other.Ops, op.Var, op.Val) {
			return k
		}
	}
	return nobody
}

// defined are the sources and the error of well-formed events, by the words.
func defined(t *testing.T, h []api.Event) ([][]int, api.Errno) {
	t.Helper()
	txns, err := table.Table(h)
	if err != api.OK {
		t.Fatal(h, err)
	}
	if !definedUnique(txns) {
		return nil, api.ErrTwice
	}
	var all [][]int
	for i, txn := range txns {
		var sources []int
		for n := range txn.Ops {
			sources = append(sources, definedSource(txns, i, n))
		}
		all = append(all, sources)
	}
	return all, api.OK
}

// counts are how many were seen: values that are not unique, sources of each kind, and those that were nobody's up to some place.
type counts struct {
	twices, own, others, firsts, nobodies, late int
}

// see counts what is answered.
func (c *counts) see(sources [][]int, err api.Errno) {
	if err != api.OK {
		c.twices++
	}
	for t, row := range sources {
		for _, source := range row {
			switch source {
			case first:
				c.firsts++
			case nobody:
				c.nobodies++
			case t:
				c.own++
			default:
				c.others++
			}
		}
	}
}

// wantFollows holds all prefixes of events to the words, and to what follows.
func wantFollows(t *testing.T, h []api.Event, c *counts) {
	t.Helper()
	whole, wholeErr := defined(t, h)
	for n := range len(h) + 1 {
		sources, err := defined(t, h[:n])
		want(t, h[:n], sources, err)
		c.see(sources, err)
		if wholeErr != api.OK {
			continue
		}
		if err != api.OK {
			t.Fatalf("%v are unique, and not up to %d", h, n)
		}
		for i, row := range sources {
			for k, source := range row {
				switch {
				case source == whole[i][k]:
				case source == nobody && whole[i][k] >= 0 && whole[i][k] != i:
					c.late++
				default:
					t.Fatalf("%v: the source of %d's %d is %d up to %d, and %d of all", h, i, k, source, n, whole[i][k])
				}
			}
		}
	}
}

// walk are well-formed events that a number tells: at each place one of those that may be there, of some names. Each name has a value that it writes; seldom it writes another one's.
func walk(t *testing.T, number uint32, names, length int) []api.Event {
	t.Helper()
	next := func(n int) int {
		number = number*1664525 + 1013904223
		return int(number >> 16 % uint32(n))
	}
	var h []api.Event
	for range length {
		tx := next(names)
		kinds, err := proper.Next(h, tx)
		if err != api.OK {
			t.Fatal(h, err)
		}
		if len(kinds) == 0 {
			continue
		}
		// The least kinds are reads and writes: the later ones, which end all, are tried more seldom.
		e := event(kinds[min(next(len(kinds)), next(len(kinds)), next(4))], tx)
		switch e.Kind {
		case api.ERead:
			e.Var = next(2)
		case api.EGot:
			e.Val = next(2 + names)
		case api.EWrite:
			e.Var, e.Val = next(2), 1+tx
			if next(10) == 0 {
				e.Val = next(2 + names)
			}
		}
		h = append(h, e)
	}
	return h
}

// P16.1, P16.2: made traces of up to six transactions, and all their prefixes: what the words define, and what follows.
func TestWalks(t *testing.T) {
	var c counts
	for number := range uint32(1200) {
		names := 1 + int(number%6)
		wantFollows(t, walk(t, number, names, 60), &c)
	}
	if min(c.twices, c.own, c.others, c.firsts, c.nobodies, c.late) < 500 {
		t.Errorf("what was seen: %+v", c)
	}
}

// P16.1, P16.2: all rows of at most two Ops, of two transactions.
func TestAllOps(t *testing.T) {
	ops := []api.Op{read(1, 0), read(1, 5), read(1, 6), write(1, 5), write(1, 6), write(1, 0), read(7, 5), write(7, 5)}
	rows := [][]api.Op{nil}
	for _, a := range ops {
		rows = append(rows, []api.Op{a})
		for _, b := range ops {
			rows = append(rows, []api.Op{a, b})
		}
	}
	var c counts
	for _, a := range rows {
		for _, b := range rows {
			wantFollows(t, slices.Concat(transaction(8, a...), transaction(3, b...)), &c)
		}
	}
	if min(c.twices, c.own, c.others, c.firsts, c.nobodies, c.late) < 500 {
		t.Errorf("what was seen: %+v", c)
	}
}
