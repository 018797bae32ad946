package table_test

import (
	"math"
	"slices"
	"strconv"
	"strings"
	"testing"

	"recant/api"
	"recant/proper"
	"recant/table"
	"recant/text"
)

// read and write are Ops of a variable and a value.
func read(variable, val int) api.Op {
	return api.Op{Var: variable, Val: val}
}

func write(variable, val int) api.Op {
	return api.Op{Write: true, Var: variable, Val: val}
}

// txn is a transaction: its name, its state, its first and its last place, and its Ops.
func txn(name, state, first, last int, ops ...api.Op) api.Txn {
	return api.Txn{Name: name, First: first, Last: last, State: state, Ops: ops}
}

// parse are a text's events; a ';' ends a line, too.
func parse(t *testing.T, s string) []api.Event {
	t.Helper()
	h, at, err := text.Parse(strings.ReplaceAll(s, ";", "\n"))
	if err != api.OK {
		t.Fatalf("Parse(%q): %d at %d", s, err, at)
	}
	return h
}

// isEqual tells whether two rows of transactions are the same, in another way than the package does.
func isEqual(a, b []api.Txn) bool {
	return slices.Equal(told(a), told(b))
}

// told has a line for each transaction, and one for each of its Ops.
func told(l []api.Txn) []string {
	var lines []string
	for _, t := range l {
		numbers := []string{strconv.Itoa(t.Name), strconv.Itoa(t.State), strconv.Itoa(t.First), strconv.Itoa(t.Last)}
		lines = append(lines, strings.Join(numbers, " "))
		for _, op := range t.Ops {
			lines = append(lines, strconv.FormatBool(op.Write)+" "+strconv.Itoa(op.Var)+" "+strconv.Itoa(op.Val))
		}
	}
	return lines
}

// copied is a list of its own of transactions, with Ops of its own.
func copied(l []api.Txn) []api.Txn {
	var all []api.Txn
	for _, t := range l {
		t.Ops = slices.Clone(t.Ops)
		all = append(all, t)
	}
	return all
}

func wantTable(t *testing.T, h []api.Event, want ...api.Txn) []api.Txn {
	t.Helper()
	was := slices.Clone(h)
	got, err := table.Table(h)
	if err != api.OK || !isEqual(got, want) {
		t.Fatalf("Table(%v) = %v, %d; want %v", h, got, err, want)
	}
	if !slices.Equal(h, was) {
		t.Fatalf("Table(%v) left %v", was, h)
	}
	return got
}

func wantNoTable(t *testing.T, h []api.Event, err api.Errno) {
	t.Helper()
	if got, gotErr := table.Table(h); len(got) != 0 || gotErr != err {
		t.Fatalf("Table(%v) = %v, %d; want %d", h, got, gotErr, err)
	}
}

func wantFind(t *testing.T, l []api.Txn, name, place int, err api.Errno) {
	t.Helper()
	was := copied(l)
	if got, gotErr := table.Find(l, name); got != place || gotErr != err {
		t.Errorf("Find(%v, %d) = %d, %d; want %d, %d", l, name, got, gotErr, place, err)
	}
	if !isEqual(l, was) {
		t.Errorf("Find(%v, %d) left %v", was, name, l)
	}
}

// wantLike holds Like of two rows, both ways round.
func wantLike(t *testing.T, a, b []api.Txn, want bool) {
	t.Helper()
	wasA, wasB := copied(a), copied(b)
	if table.Like(a, b) != want || table.Like(b, a) != want {
		t.Errorf("Like(%v, %v) = %v, %v the other way round; want %v", a, b, table.Like(a, b), table.Like(b, a), want)
	}
	if !isEqual(a, wasA) || !isEqual(b, wasB) {
		t.Errorf("Like left %v, %v of %v, %v", a, b, wasA, wasB)
	}
}

// defined are the transactions of well-formed events, as the chapter's words define them: name by name.
func defined(h []api.Event) []api.Txn {
	var all []api.Txn
	for first, e := range h {
		if slices.ContainsFunc(h[:first], func(o api.Event) bool { return o.Tx == e.Tx }) {
			continue
		}
		all = append(all, definedOf(h, e.Tx))
	}
	return all
}

func definedOf(h []api.Event, name int) api.Txn {
	var places []int
	for i, e := range h {
		if e.Tx == name {
			places = append(places, i)
		}
	}
	last := places[len(places)-1]
	one := txn(name, api.SLive, places[0], last)
	for state, kind := range map[int]int{api.SPending: api.ECommit, api.SCommitted: api.ECommitted, api.SAborted: api.EAborted} {
		if h[last].Kind == kind {
			one.State = state
		}
	}
	for k, place := range places {
		if h[place].Kind == api.EGot {
			one.Ops = append(one.Ops, read(h[places[k-1]].Var, h[place].Val))
		}
		if h[place].Kind == api.EWrote {
			one.Ops = append(one.Ops, write(h[places[k-1]].Var, h[places[k-1]].Val))
		}
	}
	return one
}

// isBeginning tells whether the table of all events up to a place may be so, if that of the whole is l.
func isBeginning(part, l []api.Txn) bool {
	if len(part) > len(l) {
		return false
	}
	for i, t := range part {
		of := l[i]
		if t.Name != of.Name || t.First != of.First || t.Last > of.Last || len(t.Ops) > len(of.Ops) {
			return false
		}
		if !slices.Equal(t.Ops, of.Ops[:len(t.Ops)]) {
			return false
		}
	}
	return true
}

// wantFollows holds a table to what follows, of all events and up to each place.
func wantFollows(t *testing.T, h []api.Event) {
	t.Helper()
	l := wantTable(t, h, defined(h)...)
	for i, one := range l {
		answers := 0
		for _, e := range h {
			if e.Tx == one.Name && (e.Kind == api.EGot || e.Kind == api.EWrote) {
				answers++
			}
		}
		if len(one.Ops) != answers {
			t.Fatalf("Table(%v): %v has %d answers", h, one, answers)
		}
		if i > 0 && one.First <= l[i-1].First {
			t.Fatalf("Table(%v) = %v: first events do not rise", h, l)
		}
		wantFind(t, l, one.Name, i, api.OK)
	}
	for k := range h {
		part, err := table.Table(h[:k])
		if err != api.OK || !isBeginning(part, l) {
			t.Fatalf("Table(%v) = %v, %d; that of the whole %v", h[:k], part, err, l)
		}
	}
}

// long are 60 well-formed events of one name, the last one its commit's answer, with 14 reads and 14 writes.
func long(t *testing.T) ([]api.Event, []api.Op) {
	t.Helper()
	s := "begin 3;begun 3;"
	var ops []api.Op
	for i := range 14 {
		variable, val := strconv.Itoa(i%8), strconv.Itoa(i-7)
		s += "read 3 " + variable + ";got 3 " + val + ";write 3 " + variable + " " + val + ";wrote 3;"
		ops = append(ops, read(i%8, i-7), write(i%8, i-7))
	}
	return parse(t, s+"commit 3;committed 3"), ops
}

// P6.1: no events have no transactions, of a nil list and of an empty one.
func TestTableNone(t *testing.T) {
	wantTable(t, nil)
	wantTable(t, []api.Event{})
}

// P6.1: the chapter's own example.
func TestTableExample(t *testing.T) {
	wantTable(t, parse(t, "begin 1;begun 1;read 1 2;got 1 5"), txn(1, api.SLive, 0, 3, read(2, 5)))
}

// P6.1: a transaction's state is told by its last event, of each kind and in each place it may have.
func TestTableStates(t *testing.T) {
	for _, c := range []struct {
		s     string
		state int
		ops   []api.Op
	}{
		{"begin 1", api.SLive, nil},
		{"begin 1;begun 1", api.SLive, nil},
		{"begin 1;aborted 1", api.SAborted, nil},
		{"begin 1;begun 1;read 1 7", api.SLive, nil},
		{"begin 1;begun 1;read 1 7;got 1 -4", api.SLive, []api.Op{read(7, -4)}},
		{"begin 1;begun 1;read 1 7;aborted 1", api.SAborted, nil},
		{"begin 1;begun 1;write 1 7 -4", api.SLive, nil},
		{"begin 1;begun 1;write 1 7 -4;wrote 1", api.SLive, []api.Op{write(7, -4)}},
		{"begin 1;begun 1;write 1 7 -4;aborted 1", api.SAborted, nil},
		{"begin 1;begun 1;commit 1", api.SPending, nil},
		{"begin 1;begun 1;commit 1;committed 1", api.SCommitted, nil},
		{"begin 1;begun 1;commit 1;aborted 1", api.SAborted, nil},
		{"begin 1;begun 1;cancel 1", api.SLive, nil},
		{"begin 1;begun 1;cancel 1;aborted 1", api.SAborted, nil},
		{"begin 1;begun 1;write 1 0 1;wrote 1;commit 1", api.SPending, []api.Op{write(0, 1)}},
		{"begin 1;begun 1;write 1 0 1;wrote 1;commit 1;committed 1", api.SCommitted, []api.Op{write(0, 1)}},
		{"begin 1;begun 1;write 1 0 1;wrote 1;commit 1;aborted 1", api.SAborted, []api.Op{write(0, 1)}},
		{"begin 1;begun 1;write 1 0 1;wrote 1;cancel 1;aborted 1", api.SAborted, []api.Op{write(0, 1)}},
		{"begin 1;begun 1;write 1 0 1;wrote 1;read 1 0;aborted 1", api.SAborted, []api.Op{write(0, 1)}},
	} {
		h := parse(t, c.s)
		wantTable(t, h, txn(1, c.state, 0, len(h)-1, c.ops...))
	}
}

// P6.1: Ops come in the order of their answers, the same one as often as it is answered.
func TestTableOps(t *testing.T) {
	h := parse(t, "begin 0;begun 0;read 0 0;got 0 0;write 0 0 0;wrote 0;read 0 0;got 0 0;read 0 7;got 0 2147483647;write 0 7 -2147483648;wrote 0;write 0 6 3;wrote 0;write 0 6 3;wrote 0;read 0 1")
	wantTable(t, h, txn(0, api.SLive, 0, 16, read(0, 0), write(0, 0), read(0, 0), read(7, api.MaxVal), write(7, api.MinVal), write(6, 3), write(6, 3)))
}

// P6.1: what a transaction asked is its own ask, whatever others ask and are answered between it and its answer.
func TestTableOthersBetween(t *testing.T) {
	h := parse(t, "begin 4;begin 9999;begun 9999;begun 4;read 4 1;write 9999 3 33;begin 0;begun 0;read 0 6;got 4 11;wrote 9999;got 0 66;write 4 2 22;read 9999 4;wrote 4;commit 0;got 9999 44;committed 0;cancel 4;commit 9999;aborted 4")
	wantTable(t, h,
		txn(4, api.SAborted, 0, 20, read(1, 11), write(2, 22)),
		txn(9999, api.SPending, 1, 19, write(3, 33), read(4, 44)),
		txn(0, api.SCommitted, 6, 17, read(6, 66)),
	)
}

// P6.1: the order is that of first events, not that of names, of ends, or of answers.
func TestTableOrder(t *testing.T) {
	h := parse(t, "begin 5;begin 0;begin 9999;begin 1;begin 7;begin 3;aborted 3;aborted 7;begun 0;aborted 1;begun 9999;commit 9999;commit 0;aborted 5")
	for range 50 {
		wantTable(t, h,
			txn(5, api.SAborted, 0, 13),
			txn(0, api.SPending, 1, 12),
			txn(9999, api.SPending, 2, 11),
			txn(1, api.SAborted, 3, 9),
			txn(7, api.SAborted, 4, 7),
			txn(3, api.SAborted, 5, 6),
		)
	}
}

// P6.1: as many events as there may be, and one more.
func TestTableMostEvents(t *testing.T) {
	h, ops := long(t)
	wantTable(t, h, txn(3, api.SCommitted, 0, 59, ops...))
	wantTable(t, h[:59], txn(3, api.SPending, 0, 58, ops...))
	wantNoTable(t, append(slices.Clone(h), api.Event{Kind: api.EBegin, Tx: 1}), api.ErrArg)
	wantNoTable(t, append(slices.Clone(h[:59]), api.Event{Kind: api.EBegun, Tx: 3}), api.ErrForm)
}

// P6.1: proper.Check's errors, ErrArg ahead of ErrForm.
func TestTableErrors(t *testing.T) {
	for _, c := range []struct {
		h   []api.Event
		err api.Errno
	}{
		{[]api.Event{{Kind: api.EBegun}}, api.ErrForm},
		{[]api.Event{{Kind: api.EBegin}, {Kind: api.EGot}}, api.ErrForm},
		{[]api.Event{{Kind: api.EBegin}, {Kind: api.EBegin}}, api.ErrForm},
		{[]api.Event{{Kind: api.EBegin}, {Kind: api.EBegun}, {Kind: api.EWrote}}, api.ErrForm},
		{[]api.Event{{Kind: api.EBegin}, {Kind: api.EAborted}, {Kind: api.EAborted}}, api.ErrForm},
		{[]api.Event{{Kind: api.EBegin, Tx: 1}, {Kind: api.EBegun, Tx: 2}}, api.ErrForm},
		{[]api.Event{{Kind: api.EKinds}}, api.ErrArg},
		{[]api.Event{{Kind: -1}}, api.ErrArg},
		{[]api.Event{{Kind: math.MinInt, Tx: math.MaxInt}}, api.ErrArg},
		{[]api.Event{{Kind: api.EBegin, Tx: -1}}, api.ErrArg},
		{[]api.Event{{Kind: api.EBegin, Tx: api.MaxName + 1}}, api.ErrArg},
		{[]api.Event{{Kind: api.EBegin, Var: 1}}, api.ErrArg},
		{[]api.Event{{Kind: api.EBegin}, {Kind: api.EBegun, Val: 1}}, api.ErrArg},
		{[]api.Event{{Kind: api.EBegun}, {Kind: api.ERead, Var: api.MaxVar + 1}}, api.ErrArg},
		{[]api.Event{{Kind: api.EGot, Val: api.MaxVal + 1}}, api.ErrArg},
		{make([]api.Event, 60), api.ErrForm},
		{make([]api.Event, 61), api.ErrArg},
		{make([]api.Event, 1000), api.ErrArg},
	} {
		wantNoTable(t, c.h, c.err)
		if _, err := proper.Check(c.h); err != c.err {
			t.Errorf("Check(%v): %d", c.h, err)
		}
	}
	var seven []api.Event
	for tx := range api.MaxTx + 1 {
		seven = append(seven, api.Event{Kind: api.EBegin, Tx: tx})
	}
	wantNoTable(t, seven, api.ErrArg)
	wantFollows(t, seven[:api.MaxTx])
}

// P6.1, P6.3: all rows of two transactions' events, up to a length: what the words define, and what follows from it.
func TestTableAllRows(t *testing.T) {
	seen := 0
	var grow func(h []api.Event, left int)
	grow = func(h []api.Event, left int) {
		seen++
		wantFollows(t, h)
		if left == 0 {
			return
		}
		for _, tx := range []int{8, 3} {
			kinds, err := proper.Next(h, tx)
			if err != api.OK {
				t.Fatal(h, err)
			}
			for _, kind := range kinds {
				grow(append(slices.Clone(h), numbered(kind, tx, len(h))), left-1)
			}
		}
	}
	grow(nil, 8)
	if seen < 5000 {
		t.Error("rows:", seen)
	}
}

// numbered is an event of a kind at a place, with numbers that no other place has, as far as there are as many.
func numbered(kind, tx, place int) api.Event {
	e := api.Event{Kind: kind, Tx: tx}
	if kind == api.ERead || kind == api.EWrite {
		e.Var = place % 8
	}
	if kind == api.EGot || kind == api.EWrite {
		e.Val = 1000 * (place + 1)
	}
	return e
}

// P6.2: the place of the first transaction of a name, in any list.
func TestFind(t *testing.T) {
	l := []api.Txn{txn(5, 0, 0, 0), txn(0, 1, 1, 5), txn(9999, 2, 2, 2), txn(5, 3, 9, 9), txn(0, 1, 1, 5), txn(-1, 77, 0, 0), txn(math.MinInt, 0, 0, 0, read(1, 1))}
	wantFind(t, l, 5, 0, api.OK)
	wantFind(t, l, 0, 1, api.OK)
	wantFind(t, l, 9999, 2, api.OK)
	wantFind(t, l, -1, 5, api.OK)
	wantFind(t, l, math.MinInt, 6, api.OK)
	wantFind(t, l[3:], 5, 0, api.OK)
	wantFind(t, l[1:3], 5, 0, api.ErrNone)
	for _, name := range []int{1, 2, 3, 77, -2, 10000, math.MaxInt, 1<<32 + 5} {
		wantFind(t, l, name, 0, api.ErrNone)
	}
	for _, name := range []int{0, 1, -1, math.MaxInt} {
		wantFind(t, nil, name, 0, api.ErrNone)
		wantFind(t, []api.Txn{}, name, 0, api.ErrNone)
	}
}

// P6.2: rows are the same if all of them is, of no matter what transactions.
func TestLike(t *testing.T) {
	l := []api.Txn{txn(5, api.SAborted, 0, 12, read(1, 7), write(0, 1)), txn(2, api.SPending, 1, 9, write(3, 4)), txn(9, api.SLive, 13, 13)}
	wantLike(t, l, l, true)
	wantLike(t, l, copied(l), true)
	for i := range l {
		for _, change := range []func(*api.Txn){
			func(x *api.Txn) { x.Name++ },
			func(x *api.Txn) { x.First++ },
			func(x *api.Txn) { x.Last++ },
			func(x *api.Txn) { x.State++ },
			func(x *api.Txn) { x.Name += 1 << 32 },
			func(x *api.Txn) { x.Ops = append(x.Ops, api.Op{}) },
			func(x *api.Txn) { x.Ops = append(x.Ops, read(1, 7)) },
			func(x *api.Txn) { x.Ops = append([]api.Op{{}}, x.Ops...) },
		} {
			other := copied(l)
			change(&other[i])
			wantLike(t, l, other, false)
		}
		wantLike(t, l, l[:i], false)
		wantLike(t, l, l[i+1:], false)
		wantLike(t, l, append(copied(l), l[i]), false)
	}
	wantLike(t, l, []api.Txn{l[1], l[0], l[2]}, false)
}

// P6.2: each part of each Op counts, and their order.
func TestLikeOps(t *testing.T) {
	ops := []api.Op{read(1, 7), write(0, 1), read(1, 8)}
	l := []api.Txn{txn(5, api.SLive, 0, 8, ops...)}
	for i := range ops {
		for _, change := range []func(*api.Op){
			func(x *api.Op) { x.Write = !x.Write },
			func(x *api.Op) { x.Var++ },
			func(x *api.Op) { x.Val++ },
		} {
			other := copied(l)
			change(&other[0].Ops[i])
			wantLike(t, l, other, false)
		}
		other := copied(l)
		other[0].Ops = slices.Delete(other[0].Ops, i, i+1)
		wantLike(t, l, other, false)
	}
	wantLike(t, l, []api.Txn{txn(5, api.SLive, 0, 8, ops[1], ops[0], ops[2])}, false)
	wantLike(t, l, []api.Txn{txn(5, api.SLive, 0, 8)}, false)
}

// P6.2, R3: a nil list is an empty one, of transactions and of Ops.
func TestLikeNone(t *testing.T) {
	wantLike(t, nil, nil, true)
	wantLike(t, nil, []api.Txn{}, true)
	wantLike(t, nil, []api.Txn{{}}, false)
	wantLike(t, []api.Txn{{}}, []api.Txn{{Ops: []api.Op{}}}, true)
	wantLike(t, []api.Txn{{}}, []api.Txn{{Ops: []api.Op{{}}}}, false)
	wantLike(t, []api.Txn{{}}, []api.Txn{{}, {}}, false)
}

// P6.3: longer rows, of more transactions: names once, first events that rise, and the table up to each place.
func TestFollows(t *testing.T) {
	wantFollows(t, parse(t, "begin 1;begin 2;begun 2;begun 1;read 1 0;write 2 0 5;got 1 0;wrote 2;commit 2;begin 3;begun 3;write 3 7 -1;aborted 3;committed 2;read 1 0;got 1 5;cancel 1;begin 4;begun 4;write 4 0 6;aborted 1;wrote 4;begin 0;commit 4;begin 9"))
	h, _ := long(t)
	wantFollows(t, h)
	wantFollows(t, append(parse(t, "begin 9;begun 9;read 9 1"), h[:57]...))
}

// R1: an answer is the caller's own: what is written into it changes no other one, and none of its lists another.
func TestTableIsNew(t *testing.T) {
	h := parse(t, "begin 1;begin 2;begun 1;begun 2;read 1 0;got 1 4;read 2 1;got 2 5;write 1 2 6;wrote 1")
	want := []api.Txn{txn(1, api.SLive, 0, 9, read(0, 4), write(2, 6)), txn(2, api.SLive, 1, 7, read(1, 5))}
	l := wantTable(t, h, want...)
	_ = append(l[0].Ops, write(7, 77))
	l[0].Ops[0] = write(7, 77)
	if !isEqual(l[1:], want[1:]) {
		t.Errorf("%v, behind a change of another's Ops", l[1])
	}
	clear(l)
	wantTable(t, h, want...)
}
