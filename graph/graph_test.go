package graph_test

import (
	"math"
	"slices"
	"strings"
	"testing"

	"recant/api"
	"recant/extend"
	"recant/graph"
	"recant/legal"
	"recant/order"
	"recant/proper"
	"recant/table"
	"recant/text"
	"recant/unique"
)

// parse are a text's events; a ';' ends a line, too.
func parse(t *testing.T, s string) []api.Event {
	t.Helper()
	h, at, err := text.Parse(strings.ReplaceAll(s, ";", "\n"))
	if err != api.OK {
		t.Fatalf("Parse(%q): %d at %d", s, err, at)
	}
	return h
}

// event is an event without a variable and a value.
func event(kind, tx int) api.Event {
	return api.Event{Kind: kind, Tx: tx}
}

// read and write are Ops of a variable and a value.
func read(variable, val int) api.Op {
	return api.Op{Var: variable, Val: val}
}

func write(variable, val int) api.Op {
	return api.Op{Write: true, Var: variable, Val: val}
}

// transaction are a name's events that read and write so.
func transaction(name int, ops ...api.Op) []api.Event {
	h := []api.Event{event(api.EBegin, name), event(api.EBegun, name)}
	for _, op := range ops {
		if op.Write {
			h = append(h, api.Event{Kind: api.EWrite, Tx: name, Var: op.Var, Val: op.Val}, event(api.EWrote, name))
		} else {
			h = append(h, api.Event{Kind: api.ERead, Tx: name, Var: op.Var}, api.Event{Kind: api.EGot, Tx: name, Val: op.Val})
		}
	}
	return h
}

// want holds Build to its answer, and what it was handed to what that was.
func want(t *testing.T, h []api.Event, commits uint32, row []int, after []uint32, err api.Errno) {
	t.Helper()
	wasEvents, wasRow := slices.Clone(h[:cap(h)]), slices.Clone(row[:cap(row)])
	got, gotErr := graph.Build(h, commits, row)
	if !slices.Equal(got, after) || gotErr != err {
		t.Fatalf("Build(%v, %b, %v) = %b, %d; want %b, %d", h, commits, row, got, gotErr, after, err)
	}
	if !slices.Equal(h[:cap(h)], wasEvents) || !slices.Equal(row[:cap(row)], wasRow) {
		t.Fatalf("%v, %v are left as %v, %v", wasEvents, wasRow, h, row)
	}
}

// wantReadable holds Readable to its answer, and the events to what they were; Build, of the table's own row, tells the same.
func wantReadable(t *testing.T, h []api.Event, commits uint32, is bool) {
	t.Helper()
	was := slices.Clone(h[:cap(h)])
	got, err := graph.Readable(h, commits)
	if got != is || err != api.OK {
		t.Fatalf("Readable(%v, %b) = %v, %d; want %v, OK", h, commits, got, err, is)
	}
	txns, err := table.Table(h)
	if err != api.OK {
		t.Fatal(h, err)
	}
	wantErr := api.OK
	if !is {
		wantErr = api.ErrNone
	}
	if _, err = graph.Build(h, commits, upTo(len(txns))); err != wantErr {
		t.Fatalf("Build(%v, %b, ..): %d; want %d", h, commits, err, wantErr)
	}
	if !slices.Equal(h[:cap(h)], was) {
		t.Fatalf("%v are left as %v", was, h)
	}
}

// upTo is the row of n places, in order.
func upTo(n int) []int {
	var row []int
	for place := range n {
		row = append(row, place)
	}
	return row
}

// rows are all rows of n places, each once.
func rows(t *testing.T, n int) [][]int {
	t.Helper()
	all, err := extend.All(make([]uint32, n))
	if err != api.OK {
		t.Fatal(n, err)
	}
	return all
}

// ahead tells whether a place is ahead of another one in a row.
func ahead(row []int, i, k int) bool {
	return slices.Index(row, i) < slices.Index(row, k)
}

// P17.1, P17.2: no events can be explained, and have no graph; nobody commits, and the row is empty.
func TestNone(t *testing.T) {
	for _, h := range [][]api.Event{nil, {}} {
		want(t, h, 0, nil, nil, api.OK)
		want(t, h, 0, []int{}, nil, api.OK)
		want(t, h, 0, []int{0}, nil, api.ErrArg)
		want(t, h, 1, nil, nil, api.ErrArg)
		wantReadable(t, h, 0, true)
	}
	want(t, transaction(3), 0, []int{0}, []uint32{0}, api.OK)
	want(t, transaction(3), 1, []int{0}, []uint32{0}, api.OK)
	wantReadable(t, transaction(3), 0, true)
	wantReadable(t, transaction(3), 1, true)
}

// P17.2: the chapter's own example; of the other row, too.
func TestExample(t *testing.T) {
	h := parse(t, "begin 1;begun 1;begin 2;begun 2;write 1 0 5;wrote 1;commit 1;committed 1;read 2 0;got 2 5")
	want(t, h, 1, []int{0, 1}, []uint32{2, 0}, api.OK)
	want(t, h, 1, []int{1, 0}, []uint32{2, 0}, api.OK)
	want(t, h, 3, []int{1, 0}, []uint32{2, 0}, api.OK)
	want(t, h, 0, []int{0, 1}, nil, api.ErrNone)
	want(t, h, 2, []int{0, 1}, nil, api.ErrNone)
}

// P17.2: who is before whom is ahead of it, whatever they wrote, whoever commits, in each row.
func TestOrder(t *testing.T) {
	h := parse(t, "begin 1;begin 2;aborted 1;begin 3;begun 2;begun 3;commit 3;committed 3;begin 4;begin 5;aborted 5")
	for commits := range uint32(32) {
		for _, row := range rows(t, 5) {
			want(t, h, commits, row, []uint32{1<<2 | 1<<3 | 1<<4, 0, 1<<3 | 1<<4, 0, 0}, api.OK)
		}
	}
}

// P17.2: a reader is behind its source, in each state that the two may be in, whichever begins first.
func TestReads(t *testing.T) {
	ends := []string{"", "commit #", "commit #;committed #", "commit #;aborted #", "cancel #;aborted #", "read # 1", "write # 3 9", "write # 3 9;aborted #"}
	for _, a := range ends {
		for _, b := range ends {
			first := strings.ReplaceAll(";"+a, "#", "1")
			second := strings.ReplaceAll(";"+b, "#", "2")
			for _, commits := range []uint32{1, 3} {
				h := parse(t, "begin 1;begun 1;begin 2;begun 2;write 1 3 5;wrote 1;read 2 3;got 2 5"+first+second)
				want(t, h, commits, []int{0, 1}, []uint32{2, 0}, api.OK)
				want(t, h, commits, []int{1, 0}, []uint32{2, 0}, api.OK)
				h = parse(t, "begin 2;begun 2;begin 1;begun 1;write 1 3 5;wrote 1;read 2 3;got 2 5"+first+second)
				want(t, h, commits<<1&2|commits>>1, []int{0, 1}, []uint32{0, 1}, api.OK)
			}
		}
	}
}

// P17.2: a reader of the first memory is ahead of each other one that commits and writes the variable; in each row.
func TestReadsOfFirst(t *testing.T) {
	h := slices.Concat(transaction(1, read(2, 0)), transaction(2, write(2, 5)), transaction(3, write(3, 6)), transaction(4, read(1, 0), write(2, 7), write(2, 8)), transaction(5, read(2, 0), write(2, 9)))
	for _, row := range rows(t, 5) {
		for commits := range uint32(32) {
			writers := commits & (1<<1 | 1<<3 | 1<<4)
			want(t, h, commits, row, []uint32{writers, 0, 0, 0, writers &^ (1 << 4)}, api.OK)
		}
	}
}

// P17.2: another writer that commits is behind the readers of a source, if it is behind that in the row; if it is ahead of it there, it is so in the graph.
func TestBetween(t *testing.T) {
	h := slices.Concat(transaction(1, write(2, 5)), transaction(2, write(2, 6)), transaction(3, read(2, 5)), transaction(4, write(3, 7), read(2, 5)), transaction(5, write(3, 4)))
	for _, row := range rows(t, 5) {
		for commits := range uint32(32) {
			if commits&1 == 0 {
				want(t, h, commits, row, nil, api.ErrNone)
				continue
			}
			after := []uint32{1<<2 | 1<<3, 0, 0, 0, 0}
			if commits&2 != 0 && ahead(row, 0, 1) {
				after[2], after[3] = 2, 2
			} else if commits&2 != 0 {
				after[1] = 1
			}
			want(t, h, commits, row, after, api.OK)
		}
	}
}

// P17.2: of three writers each is on its own side of the source, as the row tells.
func TestThreeWriters(t *testing.T) {
	h := slices.Concat(transaction(1, write(0, 1)), transaction(2, write(0, 2)), transaction(3, write(0, 3)), transaction(4, write(0, 4)), transaction(5, read(0, 2)))
	want(t, h, 15, []int{0, 1, 2, 3, 4}, []uint32{2, 1 << 4, 0, 0, 1<<2 | 1<<3}, api.OK)
	want(t, h, 15, []int{4, 3, 0, 1, 2}, []uint32{2, 1 << 4, 0, 2, 1 << 2}, api.OK)
	want(t, h, 15, []int{1, 4, 3, 2, 0}, []uint32{0, 1 << 4, 0, 0, 1<<0 | 1<<2 | 1<<3}, api.OK)
	want(t, h, 15, []int{0, 2, 3, 1, 4}, []uint32{2, 1 << 4, 2, 2, 0}, api.OK)
	want(t, h, 2|8, []int{0, 2, 3, 1, 4}, []uint32{0, 1 << 4, 0, 2, 0}, api.OK)
	want(t, h, 2|4, []int{1, 2, 3, 0, 4}, []uint32{0, 1 << 4, 0, 0, 1 << 2}, api.OK)
}

// P17.2: one that reads and writes a variable is behind its source, and on no side of itself; another such is behind it, or ahead of the source.
func TestReadersThatWrite(t *testing.T) {
	h := slices.Concat(transaction(1, write(0, 1)), transaction(2, read(0, 1), write(0, 2)), transaction(3, read(0, 1), write(0, 3)))
	want(t, h, 7, []int{0, 1, 2}, []uint32{6, 4, 2}, api.OK)
	want(t, h, 3, []int{0, 1, 2}, []uint32{6, 0, 2}, api.OK)
	want(t, h, 7, []int{1, 0, 2}, []uint32{6, 1 | 4, 0}, api.OK)
	want(t, h, 7, []int{1, 2, 0}, []uint32{6, 1, 1}, api.OK)
	h = slices.Concat(transaction(1, read(0, 0), write(0, 1)), transaction(2, read(0, 0), write(0, 2)))
	want(t, h, 3, []int{0, 1}, []uint32{2, 1}, api.OK)
	want(t, h, 1, []int{0, 1}, []uint32{0, 1}, api.OK)
	want(t, h, 0, []int{0, 1}, []uint32{0, 0}, api.OK)
}

// P17.2: reads of what the transaction itself wrote ask for nothing, nor do writes alone.
func TestOwn(t *testing.T) {
	h := slices.Concat(transaction(1, write(0, 1), read(0, 1), write(0, 2), read(0, 2)), transaction(2, write(0, 3), write(0, 4), read(0, 4)), transaction(3, write(0, 5)))
	for commits := range uint32(8) {
		for _, row := range rows(t, 3) {
			want(t, h, commits, row, []uint32{0, 0, 0}, api.OK)
		}
	}
}

// P17.2: what is asked to be written, and not answered, is no write; one that is aborted behind its writes has written them, and may be said to commit.
func TestAsked(t *testing.T) {
	h := parse(t, "begin 1;begun 1;read 1 0;got 1 0;begin 2;begun 2;write 2 0 5")
	want(t, h, 3, []int{0, 1}, []uint32{0, 0}, api.OK)
	h = append(h, event(api.EAborted, 2))
	want(t, h, 3, []int{0, 1}, []uint32{0, 0}, api.OK)
	h[len(h)-1].Kind = api.EWrote
	want(t, h, 3, []int{0, 1}, []uint32{2, 0}, api.OK)
	want(t, h, 1, []int{0, 1}, []uint32{0, 0}, api.OK)
	h = append(h, event(api.ECancel, 2), event(api.EAborted, 2))
	want(t, h, 2, []int{1, 0}, []uint32{2, 0}, api.OK)
	want(t, h, 0, []int{1, 0}, []uint32{0, 0}, api.OK)
}

// P17.2: the edges of all rules come together, though they lead both ways.
func TestTogether(t *testing.T) {
	h := parse(t, "begin 1;begun 1;write 1 0 5;wrote 1;commit 1;committed 1;begin 2;begun 2;read 2 0;got 2 0;read 2 1;got 2 0")
	want(t, h, 1, []int{0, 1}, []uint32{2, 1}, api.OK)
	h = append(h, transaction(3, write(1, 6), read(0, 5))...)
	want(t, h, 5, []int{0, 1, 2}, []uint32{6, 5, 0}, api.OK)
	want(t, h, 1, []int{0, 1, 2}, []uint32{6, 1, 0}, api.OK)
}

// P17.1: a read of the first memory can be explained, whoever commits.
func TestReadableFirst(t *testing.T) {
	h := slices.Concat(transaction(1, read(0, 0), read(7, 0)), transaction(2, write(0, 5)))
	for commits := range uint32(4) {
		wantReadable(t, h, commits, true)
	}
}

// P17.1: a read of the transaction's own is of what it wrote last ahead of it: not of an older one, not of a later one, not of another one's, whoever commits.
func TestReadableOwn(t *testing.T) {
	for val, is := range map[int]bool{4: false, 5: true, 6: false, 8: false, 0: false, 9: false, -1: false} {
		h := slices.Concat(transaction(1, write(2, 8), write(3, 5)), transaction(2, write(2, 4), write(2, 5), write(3, 6), read(2, val), write(2, 6)))
		for commits := range uint32(4) {
			wantReadable(t, h, commits, is)
		}
	}
	wantReadable(t, transaction(1, write(2, 5), write(2, 5), read(2, 5)), 0, true)
	wantReadable(t, transaction(1, write(2, 5), write(2, 6), write(2, 5), read(2, 5)), 0, true)
	wantReadable(t, transaction(1, write(2, 5), read(2, 5), write(2, 6), read(2, 6), read(2, 5)), 0, false)
	wantReadable(t, transaction(1, write(2, math.MinInt32), read(2, math.MinInt32)), 0, true)
}

// P17.1: a read of another one is of what that one wrote last of all its Ops, before or behind the read, and it commits.
func TestReadableOthers(t *testing.T) {
	h := slices.Concat(transaction(1, write(2, 5), write(2, 6), write(3, 5)), transaction(2, read(2, 6), read(3, 5)))
	wantReadable(t, h, 1, true)
	wantReadable(t, h, 3, true)
	wantReadable(t, h, 0, false)
	wantReadable(t, h, 2, false)
	h = append(h, api.Event{Kind: api.EWrite, Tx: 1, Var: 3, Val: 7})
	wantReadable(t, h, 1, true)
	wantReadable(t, append(h, event(api.EAborted, 1)), 1, true)
	wantReadable(t, append(h, event(api.EWrote, 1)), 1, false)
	wantReadable(t, slices.Concat(h, []api.Event{event(api.EWrote, 1), {Kind: api.EWrite, Tx: 1, Var: 3, Val: 5}, event(api.EWrote, 1)}), 1, true)
	wantReadable(t, slices.Concat(transaction(1, write(2, 5), write(2, 6)), transaction(2, read(2, 5))), 3, false)
	wantReadable(t, slices.Concat(transaction(2, read(2, 5)), transaction(1, write(2, 5))), 2, true)
	wantReadable(t, slices.Concat(transaction(2, read(2, 5)), transaction(1, write(2, 5))), 1, false)
}

// P17.1: what nobody wrote can't be explained, nor what the reader itself writes only behind; one such read is enough, of any transaction, at any place.
func TestReadableNobody(t *testing.T) {
	wantReadable(t, transaction(1, read(2, 5)), 0, false)
	wantReadable(t, transaction(1, read(2, 5)), 1, false)
	wantReadable(t, transaction(1, read(2, 5), write(2, 5)), 1, false)
	wantReadable(t, transaction(1, read(2, -1)), 1, false)
	wantReadable(t, transaction(1, read(2, -2)), 1, false)
	good := []api.Op{read(1, 0), read(2, 0), write(2, 5), read(2, 5), read(1, 0)}
	for place := range len(good) + 1 {
		ops := slices.Insert(slices.Clone(good), place, read(4, 8))
		wantReadable(t, slices.Concat(transaction(1, write(2, 6)), transaction(2, ops...)[:2*(place+2)]), 3, false)
		wantReadable(t, slices.Concat(transaction(2, ops...), transaction(3, write(3, 8))), 3, false)
		wantReadable(t, slices.Concat(transaction(2, ops...), transaction(3, write(4, 8))), 3, true)
		wantReadable(t, slices.Concat(transaction(2, ops...), transaction(3, write(4, 8))), 1, false)
	}
}

// P17.2: a row has each transaction's place once, and no other.
func TestRows(t *testing.T) {
	h := slices.Concat(transaction(1), transaction(2), transaction(3))
	for _, row := range [][]int{nil, {}, {0}, {0, 1}, {0, 1, 2, 0}, {0, 1, 2, 3}, {0, 1, 1}, {2, 2, 2}, {0, 1, 3}, {-1, 0, 1}, {0, -1, 2}, {1, 2, 3}, {0, 1, 32}, {0, 1, 34}, {0, 1, math.MaxInt}, {math.MinInt, 1, 0}, {0, 1, 2, 2}, {0, 1, 2, -1}, upTo(6), upTo(70)} {
		want(t, h, 0, row, nil, api.ErrArg)
	}
	for _, row := range rows(t, 3) {
		want(t, h, 7, row, []uint32{0, 0, 0}, api.OK)
	}
}

// P17.1, P17.2: unique's errors go ahead of ErrArg, of the bits and of the row, and these ahead of ErrNone.
func TestErrors(t *testing.T) {
	wantBoth := func(h []api.Event, commits uint32, row []int, err api.Errno) {
		t.Helper()
		want(t, h, commits, row, nil, err)
		if is, got := graph.Readable(h, commits); is || got != err {
			t.Fatalf("Readable(%v, %b) = %v, %d; want false, %d", h, commits, is, got, err)
		}
	}
	good := transaction(1, write(2, 5), read(2, 5))
	for _, commits := range []uint32{2, 3, 4, 64, 1 << 31, math.MaxUint32} {
		wantBoth(good, commits, []int{0}, api.ErrArg)
		wantBoth(good, commits, nil, api.ErrArg)
		wantBoth(transaction(1, read(2, 5)), commits, nil, api.ErrArg)
		wantBoth(transaction(1, write(2, 0)), commits, nil, api.ErrTwice)
		wantBoth(slices.Concat(good, transaction(2, write(2, 5))), commits, nil, api.ErrTwice)
		wantBoth(slices.Concat(good, good), commits, nil, api.ErrForm)
		wantBoth(slices.Concat(transaction(1, write(2, 0)), good), commits, nil, api.ErrForm)
		wantBoth(slices.Concat(good, good, []api.Event{event(api.EKinds, 1)}), commits, nil, api.ErrArg)
		wantBoth(make([]api.Event, api.MaxEvents+1), commits, nil, api.ErrArg)
		wantBoth(make([]api.Event, api.MaxEvents), commits, nil, api.ErrForm)
	}
	wantBoth(transaction(1, write(2, 0)), 1, []int{0}, api.ErrTwice)
	wantBoth(transaction(1, write(2, 0), read(2, 7)), 1, []int{1}, api.ErrTwice)
	want(t, transaction(1, read(2, 5)), 1, []int{0}, nil, api.ErrNone)
	want(t, transaction(1, read(2, 5)), 1, []int{1}, nil, api.ErrArg)
	want(t, transaction(1, read(2, 5)), 0, nil, nil, api.ErrArg)
	var six, seven []api.Event
	for tx := range api.MaxTx + 1 {
		six = seven
		seven = append(seven, event(api.EBegin, tx))
	}
	wantBoth(seven, 0, upTo(7), api.ErrArg)
	wantBoth(six, 64, upTo(6), api.ErrArg)
	want(t, six, 63, upTo(6), make([]uint32, 6), api.OK)
	wantReadable(t, six, 63, true)
}

// P17.2: as many events and transactions as there may be.
func TestLimits(t *testing.T) {
	var h []api.Event
	for i := range api.MaxTx {
		h = append(h, transaction(i, read(0, i), read(1, 0), write(0, i+1), write(1, i+1))...)
	}
	if len(h) != api.MaxEvents {
		t.Fatal(len(h))
	}
	// Each is behind the one whose 0 it read; of variable 1 each is ahead of all others.
	others := []uint32{62, 61, 59, 55, 47, 31}
	want(t, h, 63, upTo(6), others, api.OK)
	want(t, h, 31, upTo(6), []uint32{30, 29, 27, 23, 15 | 32, 31}, api.OK)
	want(t, h, 15, upTo(6), nil, api.ErrNone)
	want(t, append(slices.Clone(h), event(api.ECommit, 0)), 63, upTo(6), nil, api.ErrArg)
}

// P17.2, R1, R4: what is answered is new: to change it changes no later answer.
func TestNew(t *testing.T) {
	h := slices.Concat(transaction(1, write(0, 5)), transaction(2, read(0, 5)))
	row := []int{1, 0}
	after, err := graph.Build(h, 1, row)
	if err != api.OK {
		t.Fatal(err)
	}
	after[0], after[1] = 7, 8
	want(t, h, 1, row, []uint32{2, 0}, api.OK)
}

// lastOf is the value of a variable that Ops write last.
func lastOf(ops []api.Op, variable int) (int, bool) {
	for _, op := range slices.Backward(ops) {
		if op.Write && op.Var == variable {
			return op.Val, true
		}
	}
	return 0, false
}

// definedReadable tells whether what was read can be explained, as the chapter's words define it.
func definedReadable(txns []api.Txn, sources [][]int, commits uint32) bool {
	for t, txn := range txns {
		for n, op := range txn.Ops {
			source := sources[t][n]
			if op.Write || source == api.FromFirst {
				continue
			}
			if source == api.FromNobody {
				return false
			}
			if source == t {
				if val, is := lastOf(txn.Ops[:n], op.Var); !is || val != op.Val {
					return false
				}
				continue
			}
			if val, is := lastOf(txns[source].Ops, op.Var); !is || val != op.Val || commits>>source&1 == 0 {
				return false
			}
		}
	}
	return true
}

// defined is a trace, with what the words stand on.
type defined struct {
	h       []api.Event
	txns    []api.Txn
	sources [][]int
	before  []uint32
	commits uint32
	row     []int
}

// commitsAndWrites tells whether a transaction commits and writes a variable.
func (d defined) commitsAndWrites(place, variable int) bool {
	_, is := lastOf(d.txns[place].Ops, variable)
	return is && d.commits>>place&1 == 1
}

// rulesOf tells by which of the chapter's four rules transaction k is to come behind i, as bits.
func (d defined) rulesOf(i, k int) uint32 {
	rules := d.before[i] >> k & 1
	for reader, txn := range d.txns {
		for n, op := range txn.Ops {
			source := d.sources[reader][n]
			if op.Write || source == reader {
				continue
			}
			if reader == k && source == i {
				rules |= 2
			}
			if reader == i && d.commitsAndWrites(k, op.Var) && k != i && k != source && (source == api.FromFirst || ahead(d.row, source, k)) {
				rules |= 4
			}
			if source == k && d.commitsAndWrites(i, op.Var) && i != reader && i != k && ahead(d.row, i, k) {
				rules |= 8
			}
		}
	}
	return rules
}

// counts are how many were seen: what can't be explained; rows that explain, that don't, and that keep a graph; what can be explained, as far as it was read, and has no row; and edges that one rule alone puts.
type counts struct {
	unreadable, explaining, not, kept, without int
	alone                                      [4]int
}

// wantDefined holds Build to the words, for a row, and answers the graph.
func (d defined) wantDefined(t *testing.T, c *counts) []uint32 {
	t.Helper()
	after := make([]uint32, len(d.txns))
	for i := range d.txns {
		for k := range d.txns {
			rules := d.rulesOf(i, k)
			if rules != 0 {
				after[i] |= 1 << k
			}
			for n := range 4 {
				if rules == 1<<n {
					c.alone[n]++
				}
			}
		}
	}
	want(t, d.h, d.commits, d.row, after, api.OK)
	return after
}

// explains tells whether a row explains all transactions, as chapter 12's words define it.
func explains(t *testing.T, h []api.Event, commits uint32, row []int) bool {
	t.Helper()
	keeps, err := order.Keeps(h, row)
	if err != api.OK {
		t.Fatal(h, row, err)
	}
	n, err := legal.Legal(h, row, commits)
	if err != api.OK {
		t.Fatal(h, row, err)
	}
	return keeps && n == len(row)
}

// keepsGraph tells whether in a row each is behind those that it is to come behind.
func keepsGraph(after []uint32, row []int) bool {
	for i := range after {
		for k := range after {
			if after[i]>>k&1 == 1 && !ahead(row, i, k) {
				return false
			}
		}
	}
	return true
}

// wantFollows holds events, if some commit, to the words and to what follows. That needs no choice: any bits do.
func wantFollows(t *testing.T, h []api.Event, commits uint32, c *counts) {
	t.Helper()
	txns, _ := table.Table(h)
	sources, err := unique.Sources(h)
	if err != api.OK {
		t.Fatal(h, err)
	}
	before, err := order.After(h)
	if err != api.OK {
		t.Fatal(h, err)
	}
	is := definedReadable(txns, sources, commits)
	wantReadable(t, h, commits, is)
	all := rows(t, len(txns))
	if !is {
		c.unreadable++
		for _, row := range all {
			if explains(t, h, commits, row) {
				t.Fatalf("%v, %b: %v explains what can't be explained", h, commits, row)
			}
		}
		return
	}
	var graphs [][]uint32
	explained := 0
	for _, row := range all {
		graphs = append(graphs, defined{h, txns, sources, before, commits, row}.wantDefined(t, c))
	}
	for n, row := range all {
		does := explains(t, h, commits, row)
		if does {
			c.explaining++
			explained++
		} else {
			c.not++
		}
		if does && !keepsGraph(graphs[n], row) {
			t.Fatalf("%v, %b: %v explains, and does not keep its graph %b", h, commits, row, graphs[n])
		}
		for _, after := range graphs {
			if keepsGraph(after, row) {
				c.kept++
				if !does {
					t.Fatalf("%v, %b: %v keeps a graph %b, and does not explain", h, commits, row, after)
				}
			}
		}
	}
	if explained == 0 {
		c.without++
	}
}

// walk are well-formed events that a number tells: at each place one of those that may be there, of some names. What is written is each time a value of its own, or the writer's last one again; what is read is one of those, 0, or seldom nobody's.
func walk(t *testing.T, number uint32, names, length int) []api.Event {
	t.Helper()
	next := func(n int) int {
		number = number*1664525 + 1013904223
		return int(number >> 16 % uint32(n))
	}
	var h []api.Event
	var reads [api.MaxTx]int
	vals := [3][]int{{0}, {0}, {0}}
	for len(h) < length {
		tx := next(names)
		kinds, err := proper.Next(h, tx)
		if err != api.OK {
			t.Fatal(h, err)
		}
		if len(kinds) == 0 {
			length--
			continue
		}
		// The least kinds are reads and writes: the later ones, which end all, are tried more seldom.
		e := event(kinds[min(next(len(kinds)), next(len(kinds)), next(4))], tx)
		switch e.Kind {
		case api.ERead:
			e.Var = next(2)
			reads[tx] = e.Var
		case api.EGot:
			written := vals[reads[tx]]
			// Older values are seldom the last ones of their writers.
			e.Val = written[max(next(len(written)), next(len(written)))]
			if next(40) == 0 {
				e.Val = 99
			}
		case api.EWrite:
			e.Var = next(2)
			e.Val = tx*10 + 1 + next(2)
			vals[e.Var] = append(vals[e.Var], e.Val)
		}
		h = append(h, e)
	}
	return h
}

// P17.1, P17.2, P17.3: made traces, with all bits of their transactions: what the words define, of all rows, and what follows.
func TestWalks(t *testing.T) {
	var c counts
	for number := range uint32(700) {
		h := walk(t, number, 2+int(number%3), 12+int(number%31))
		txns, err := table.Table(h)
		if err != api.OK {
			t.Fatal(h, err)
		}
		for commits := range uint32(1) << len(txns) {
			wantFollows(t, h, commits, &c)
		}
	}
	if min(c.unreadable, c.explaining, c.not, c.kept, 4*c.without, slices.Min(c.alone[:])) < 400 {
		t.Errorf("what was seen: %+v", c)
	}
}

// P17.1, P17.2, P17.3: all rows of at most two Ops, of two transactions, side by side and one before the other.
func TestAllOps(t *testing.T) {
	var c counts
	for _, a := range opsOf(5) {
		for _, b := range opsOf(6) {
			for commits := range uint32(4) {
				h := slices.Concat(transaction(8, a...), transaction(3, b...))
				wantFollows(t, h, commits, &c)
				h = slices.Concat(transaction(8, a...), []api.Event{event(api.ECommit, 8), event(api.ECommitted, 8)}, transaction(3, b...))
				wantFollows(t, h, commits, &c)
			}
		}
	}
	if min(c.unreadable, c.explaining, c.not, c.kept, c.without, c.alone[0], c.alone[1], c.alone[2]) < 400 {
		t.Errorf("what was seen: %+v", c)
	}
}

// opsOf are all rows of at most two Ops of one that writes two values, the first of which is told.
func opsOf(val int) [][]api.Op {
	ops := []api.Op{read(1, 0), read(1, 5), read(1, 6), read(1, 15), read(2, 5), write(1, val), write(1, val+10), write(2, val)}
	all := [][]api.Op{nil}
	for _, a := range ops {
		all = append(all, []api.Op{a})
		for _, b := range ops {
			all = append(all, []api.Op{a, b})
		}
	}
	return all
}
