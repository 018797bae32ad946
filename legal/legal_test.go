package legal_test

import (
	"math"
	"slices"
	"strings"
	"testing"

	"recant/api"
	"recant/legal"
	"recant/proper"
	"recant/table"
	"recant/text"
)

// parse are a text's events; a ';' ends a line, too.
func parse(t *testing.T, s string) []api.Event {
	t.Helper()
	h, at, err := text.Parse(strings.ReplaceAll(s, ";", "\n"))
	if err != api.OK {
		t.Fatalf("Parse(%q): %d at %d", s, err, at)
	}
	return h
}

// event is an event without a variable and a value.
func event(kind, tx int) api.Event {
	return api.Event{Kind: kind, Tx: tx}
}

// read and write are Ops of a variable and a value.
func read(variable, val int) api.Op {
	return api.Op{Var: variable, Val: val}
}

func write(variable, val int) api.Op {
	return api.Op{Write: true, Var: variable, Val: val}
}

// memory are 8 values, of which the first ones are told.
func memory(values ...int) []int {
	m := make([]int, 8)
	copy(m, values)
	return m
}

// wantRow holds Legal and Memory to their answers.
func wantRow(t *testing.T, h []api.Event, row []int, commits uint32, n int, m []int) {
	t.Helper()
	wantAnswers(t, h, row, commits, n, m, api.OK)
}

// wantError holds both to one error, whatever commits.
func wantError(t *testing.T, h []api.Event, row []int, err api.Errno) {
	t.Helper()
	for _, commits := range []uint32{0, 1, 63, 64, math.MaxUint32} {
		wantAnswers(t, h, row, commits, 0, nil, err)
	}
}

func wantAnswers(t *testing.T, h []api.Event, row []int, commits uint32, n int, m []int, err api.Errno) {
	t.Helper()
	was, wasRow := slices.Clone(h), slices.Clone(row)
	if got, gotErr := legal.Legal(h, row, commits); got != n || gotErr != err {
		t.Fatalf("Legal(%v, %v, %b) = %d, %d; want %d, %d", h, row, commits, got, gotErr, n, err)
	}
	if got, gotErr := legal.Memory(h, row, commits); !slices.Equal(got, m) || gotErr != err {
		t.Fatalf("Memory(%v, %v, %b) = %v, %d; want %v, %d", h, row, commits, got, gotErr, m, err)
	}
	if !slices.Equal(h, was) || !slices.Equal(row, wasRow) {
		t.Fatalf("%v and %v are left as %v and %v", was, wasRow, h, row)
	}
}

func wantOwn(t *testing.T, ops []api.Op, m []int, want int, err api.Errno) {
	t.Helper()
	wasOps, wasM := slices.Clone(ops), slices.Clone(m)
	if got, gotErr := legal.Own(api.Txn{Ops: ops}, m); got != want || gotErr != err {
		t.Fatalf("Own(%v, %v) = %d, %d; want %d, %d", ops, m, got, gotErr, want, err)
	}
	if !slices.Equal(ops, wasOps) || !slices.Equal(m, wasM) {
		t.Fatalf("Own(%v, %v) left %v, %v", wasOps, wasM, ops, m)
	}
}

// lastWritten is the value that Ops wrote last of a variable, if they did.
func lastWritten(ops []api.Op, variable int) (int, bool) {
	for i := len(ops) - 1; i >= 0; i-- {
		if ops[i].Write && ops[i].Var == variable {
			return ops[i].Val, true
		}
	}
	return 0, false
}

// definedMemory is the memory behind a row, as the chapter's words define it: of each variable what was written last by those that are committed.
func definedMemory(txns []api.Txn, row []int, commits uint32) []int {
	var ops []api.Op
	for _, place := range row {
		if commits>>place%2 == 1 {
			ops = append(ops, txns[place].Ops...)
		}
	}
	m := memory()
	for variable := range m {
		if val, ok := lastWritten(ops, variable); ok {
			m[variable] = val
		}
	}
	return m
}

// definedOwn is the place of the first read that is not of what it may, by the chapter's words.
func definedOwn(ops []api.Op, m []int) int {
	for i, op := range ops {
		may, ok := lastWritten(ops[:i], op.Var)
		if !ok {
			may = m[op.Var]
		}
		if !op.Write && op.Val != may {
			return i
		}
	}
	return len(ops)
}

// definedLegal is how many of a row, from the first one on, read what they may, by the words.
func definedLegal(txns []api.Txn, row []int, commits uint32) int {
	for n, place := range row {
		ops := txns[place].Ops
		if definedOwn(ops, definedMemory(txns, row[:n], commits)) < len(ops) {
			return n
		}
	}
	return len(row)
}

// rows are all rows that have places below n, each at most once.
func rows(n int) [][]int {
	all := [][]int{nil}
	for i := 0; i < len(all); i++ {
		for place := range n {
			if !slices.Contains(all[i], place) {
				all = append(all, append(slices.Clone(all[i]), place))
			}
		}
	}
	return all
}

// wantDefined holds both calls, of all rows and all bits that commit, to the words and to what follows; and tells of how many of them the whole row is legal, and of how many it is not.
func wantDefined(t *testing.T, h []api.Event) (int, int) {
	t.Helper()
	txns, err := table.Table(h)
	if err != api.OK {
		t.Fatal(h, err)
	}
	whole, part := 0, 0
	for _, row := range rows(len(txns)) {
		for commits := range uint32(1) << len(txns) {
			n := definedLegal(txns, row, commits)
			wantRow(t, h, row, commits, n, definedMemory(txns, row, commits))
			wantFollows(t, h, row, commits, n)
			if n == len(row) {
				whole++
			} else {
				part++
			}
		}
	}
	return whole, part
}

// wantFollows holds a row of which n are legal to what follows, by the package's own answers.
func wantFollows(t *testing.T, h []api.Event, row []int, commits uint32, n int) {
	t.Helper()
	for k := range row {
		if got, _ := legal.Legal(h, row[:k], commits); got != min(k, n) {
			t.Fatalf("Legal(%v, %v, %b) = %d; of the whole row it is %d", h, row[:k], commits, got, n)
		}
	}
	var committed []int
	for _, place := range row {
		if commits>>place%2 == 1 {
			committed = append(committed, place)
		}
	}
	all, _ := legal.Memory(h, row, commits)
	if alone, _ := legal.Memory(h, committed, commits); !slices.Equal(alone, all) {
		t.Fatalf("Memory(%v, %v, %b) = %v; without those that aren't committed %v", h, row, commits, all, alone)
	}
	txns, _ := table.Table(h)
	for _, place := range row[:n] {
		seen := map[int]int{}
		for i, op := range txns[place].Ops {
			if _, written := lastWritten(txns[place].Ops[:i], op.Var); op.Write || written {
				continue
			}
			if val, ok := seen[op.Var]; ok && val != op.Val {
				t.Fatalf("Legal(%v, %v, %b) = %d: %d reads %d and %d of %d", h, row, commits, n, place, val, op.Val, op.Var)
			}
			seen[op.Var] = op.Val
		}
	}
}

// opRows are all rows of at most so many of these Ops.
func opRows(ops []api.Op, length int) [][]api.Op {
	all := [][]api.Op{nil}
	for i := 0; i < len(all); i++ {
		for _, op := range ops {
			if len(all[i]) < length {
				all = append(all, append(slices.Clone(all[i]), op))
			}
		}
	}
	return all
}

// transaction are a name's events that read and write so, and ask to commit.
func transaction(name int, ops []api.Op) []api.Event {
	h := []api.Event{event(api.EBegin, name), event(api.EBegun, name)}
	for _, op := range ops {
		if op.Write {
			h = append(h, api.Event{Kind: api.EWrite, Tx: name, Var: op.Var, Val: op.Val}, event(api.EWrote, name))
		} else {
			h = append(h, api.Event{Kind: api.ERead, Tx: name, Var: op.Var}, api.Event{Kind: api.EGot, Tx: name, Val: op.Val})
		}
	}
	return append(h, event(api.ECommit, name))
}

// P10.1: the empty row, of no events and of some, whatever commits: none are legal, and the memory is the first one.
func TestNone(t *testing.T) {
	for _, h := range [][]api.Event{nil, {}, parse(t, "begin 1;begun 1;write 1 2 5;wrote 1;commit 1;committed 1")} {
		for _, commits := range []uint32{0, 1, 2, 64, 1 << 31, math.MaxUint32} {
			wantRow(t, h, nil, commits, 0, memory())
			wantRow(t, h, []int{}, commits, 0, memory())
		}
	}
	wantError(t, nil, []int{0}, api.ErrNone)
}

// P10.1: the chapter's own example; the other way round the read is of the first memory.
func TestExample(t *testing.T) {
	h := parse(t, "begin 1;begun 1;write 1 3 5;wrote 1;commit 1;committed 1;begin 2;begun 2;read 2 3;got 2 5")
	wantRow(t, h, []int{0, 1}, 1, 2, memory(0, 0, 0, 5))
	wantRow(t, h, []int{0, 1}, 0, 1, memory())
	wantRow(t, h, []int{0, 1}, 2, 1, memory())
	wantRow(t, h, []int{1, 0}, 1, 0, memory(0, 0, 0, 5))
	wantRow(t, h, []int{1}, 1, 0, memory())
	wantRow(t, h, []int{0}, 3, 1, memory(0, 0, 0, 5))
}

// P10.1: at first each variable is 0, and only that.
func TestFirstMemory(t *testing.T) {
	for variable := range 8 {
		digit := string(rune('0' + variable))
		for val, n := range map[string]int{"0": 1, "1": 0, "-1": 0, "2147483647": 0, "-2147483648": 0} {
			h := parse(t, "begin 1;begun 1;read 1 "+digit+";got 1 "+val)
			for _, commits := range []uint32{0, 1} {
				wantRow(t, h, []int{0}, commits, n, memory())
			}
		}
	}
}

// P10.1: each variable is one of its own, of the least and the greatest values, too.
func TestVariables(t *testing.T) {
	vals := []int{7, -6, math.MaxInt32, math.MinInt32, 1, 0, -1, 2}
	var writes, reads, zeros []api.Op
	for variable, val := range vals {
		writes = append(writes, write(variable, val))
		reads = append([]api.Op{read(variable, val)}, reads...)
		zeros = append(zeros, read(variable, 0))
	}
	h := slices.Concat(transaction(1, writes), transaction(2, reads), transaction(3, zeros))
	wantRow(t, h, []int{2, 0, 1}, 1, 3, vals)
	wantRow(t, h, []int{0, 2, 1}, 1, 1, vals)
	wantRow(t, h, []int{0, 1, 2}, 1, 2, vals)
	wantRow(t, h, []int{2, 1, 0}, 1, 1, vals)
	wantRow(t, h, []int{2, 0, 1}, 6, 2, memory())
	wantDefined(t, h)
}

// P10.1: a transaction reads what it wrote last itself, whether it commits or not, and not what it writes later on; others see the last of its writes.
func TestOwnWrites(t *testing.T) {
	h := slices.Concat(
		transaction(1, []api.Op{read(0, 0), write(0, 5), read(0, 5), read(1, 0), write(0, 6), read(0, 6), write(1, 4)}),
		transaction(2, []api.Op{read(0, 6), write(1, 9), read(1, 9), read(0, 6)}),
		transaction(3, []api.Op{read(0, 5)}),
		transaction(4, []api.Op{read(1, 4), read(0, 6)}),
		transaction(5, []api.Op{read(0, 0), write(0, 1), read(0, 0)}),
	)
	wantRow(t, h, []int{0}, 0, 1, memory())
	wantRow(t, h, []int{0, 1}, 1, 2, memory(6, 4))
	wantRow(t, h, []int{0, 1}, 3, 2, memory(6, 9))
	wantRow(t, h, []int{0, 2}, 1, 1, memory(6, 4))
	wantRow(t, h, []int{0, 1, 3}, 1, 3, memory(6, 4))
	wantRow(t, h, []int{0, 1, 3}, 3, 2, memory(6, 9))
	wantRow(t, h, []int{0, 3, 1}, 3, 3, memory(6, 9))
	wantRow(t, h, []int{4, 0}, 0, 0, memory())
	wantRow(t, h, []int{0, 4}, 0, 1, memory())
	wantRow(t, h, []int{4, 0}, 1<<4, 0, memory(1))
	wantDefined(t, h)
}

// P10.1: which ones' writes are left is told by the bits alone, not by what is answered; and only answered reads and writes count.
func TestBitsAlone(t *testing.T) {
	for _, end := range []string{"", "commit 1", "commit 1;committed 1", "commit 1;aborted 1", "cancel 1", "cancel 1;aborted 1", "read 1 0", "write 1 3 8", "write 1 3 8;aborted 1"} {
		h := parse(t, "begin 1;begun 1;write 1 3 5;wrote 1;"+end)
		wantRow(t, h, []int{0}, 1, 1, memory(0, 0, 0, 5))
		wantRow(t, h, []int{0}, 0, 1, memory())
	}
	h := parse(t, "begin 1;begin 2;begun 2;read 2 1")
	wantRow(t, h, []int{1, 0}, 3, 2, memory())
}

// P10.1: the row's places alone count: bits of no place of it, and of none of the table, are nothing.
func TestOtherBits(t *testing.T) {
	h := slices.Concat(transaction(7, []api.Op{write(0, 5)}), transaction(3, []api.Op{read(0, 0), write(1, 6)}))
	for _, more := range []uint32{0, 1 << 2, 1 << 5, 1 << 6, 1 << 31, ^uint32(3)} {
		wantRow(t, h, []int{1}, 1|more, 1, memory())
		wantRow(t, h, []int{1}, 3|more, 1, memory(0, 6))
		wantRow(t, h, []int{0, 1}, 2|more, 2, memory(0, 6))
		wantRow(t, h, []int{0, 1}, 3|more, 1, memory(5, 6))
		wantRow(t, h, []int{1, 0}, 3|more, 2, memory(5, 6))
	}
}

// P10.1: behind the first one that does not read what it may none are told, though they do; the memory goes on.
func TestBehindFirstWrong(t *testing.T) {
	h := slices.Concat(
		transaction(1, []api.Op{write(2, 5)}),
		transaction(2, []api.Op{read(2, 4), write(2, 6)}),
		transaction(3, []api.Op{read(2, 6)}),
		transaction(4, nil),
	)
	wantRow(t, h, []int{0, 1, 2, 3}, 15, 1, memory(0, 0, 6))
	wantRow(t, h, []int{1, 2, 3, 0}, 2, 0, memory(0, 0, 6))
	wantRow(t, h, []int{3, 0, 1}, 1, 2, memory(0, 0, 5))
	wantRow(t, h, []int{3, 0, 2, 1}, 11, 2, memory(0, 0, 6))
	wantDefined(t, h)
}

// P10.1: a row may have an order that the transactions do not have, and its places are those of first events, not names, nor ends.
func TestPlaces(t *testing.T) {
	h := parse(t, "begin 9;begin 0;begin 5;begun 0;write 0 4 -3;wrote 0;commit 0;committed 0;begun 5;read 5 4;got 5 -3;begun 9;write 9 4 8;wrote 9;commit 9;committed 9;commit 5;committed 5")
	wantRow(t, h, []int{1, 2, 0}, 7, 3, memory(0, 0, 0, 0, 8))
	wantRow(t, h, []int{0, 1, 2}, 7, 3, memory(0, 0, 0, 0, -3))
	wantRow(t, h, []int{1, 0, 2}, 7, 2, memory(0, 0, 0, 0, 8))
	wantRow(t, h, []int{2, 0, 1}, 7, 0, memory(0, 0, 0, 0, -3))
	wantRow(t, h, []int{1, 0, 2}, 2, 3, memory(0, 0, 0, 0, -3))
	wantDefined(t, h)
}

// P10.1: as many transactions as there may be, each of which reads what the one ahead of it left.
func TestSix(t *testing.T) {
	var h []api.Event
	for i := range api.MaxTx {
		h = append(h, transaction(i, []api.Op{read(7, i), write(7, i+1)})...)
	}
	wantRow(t, h, []int{0, 1, 2, 3, 4, 5}, 63, 6, memory(0, 0, 0, 0, 0, 0, 0, 6))
	wantRow(t, h, []int{0, 1, 2, 3, 4, 5}, 31, 6, memory(0, 0, 0, 0, 0, 0, 0, 5))
	wantRow(t, h, []int{0, 1, 2, 3, 4, 5}, 59, 3, memory(0, 0, 0, 0, 0, 0, 0, 6))
	wantRow(t, h, []int{0, 1, 2, 4, 3, 5}, 63, 3, memory(0, 0, 0, 0, 0, 0, 0, 6))
	wantRow(t, h, []int{5, 4, 3, 2, 1, 0}, 63, 0, memory(0, 0, 0, 0, 0, 0, 0, 1))
	wantError(t, h, []int{0, 1, 2, 3, 4, 5, 6}, api.ErrNone)
	wantError(t, h, []int{0, 1, 2, 3, 4, 5, 5}, api.ErrArg)
}

// P10.1: a place that is no transaction's.
func TestNoPlace(t *testing.T) {
	h := slices.Concat(transaction(3, nil), transaction(4, []api.Op{read(0, 1)}))
	for _, place := range []int{-1, 2, 3, 4, 6, 31, 32, 33, 64, 1 << 32, math.MinInt, math.MaxInt} {
		wantError(t, h, []int{place}, api.ErrNone)
		wantError(t, h, []int{0, place}, api.ErrNone)
		wantError(t, h, []int{1, 0, place}, api.ErrNone)
		wantError(t, h, []int{place, place}, api.ErrNone)
	}
}

// P10.1: a place that is there twice, side by side or apart, though one ahead of it does not read what it may; and a place that is none goes ahead of that, wherever it is.
func TestTwice(t *testing.T) {
	h := slices.Concat(transaction(3, nil), transaction(4, []api.Op{read(0, 1)}), transaction(5, nil))
	for _, row := range [][]int{{0, 0}, {2, 2}, {0, 2, 0}, {1, 0, 0}, {0, 1, 2, 0}, {2, 0, 1, 1}, make([]int, 100000)} {
		wantError(t, h, row, api.ErrArg)
	}
	for _, row := range [][]int{{0, 0, 3}, {0, 0, -1}, {3, 0, 0}, {1, 3, 1}, append(make([]int, 100000), 3)} {
		wantError(t, h, row, api.ErrNone)
	}
}

// P10.1: table.Table's errors go ahead of the row's, ErrArg ahead of ErrForm.
func TestErrors(t *testing.T) {
	var seven []api.Event
	for tx := range api.MaxTx + 1 {
		seven = append(seven, event(api.EBegin, tx))
	}
	for _, row := range [][]int{nil, {}, {0}, {0, 0}, {-1}, {6}, {7}} {
		wantError(t, seven, row, api.ErrArg)
		wantError(t, make([]api.Event, api.MaxEvents), row, api.ErrForm)
		wantError(t, make([]api.Event, api.MaxEvents+1), row, api.ErrArg)
		wantError(t, []api.Event{event(api.EBegun, 0)}, row, api.ErrForm)
		wantError(t, []api.Event{event(api.EBegin, 1), event(api.EAborted, 1), event(api.EBegin, 1)}, row, api.ErrForm)
		wantError(t, []api.Event{event(api.EBegin, -1)}, row, api.ErrArg)
		wantError(t, []api.Event{event(api.EBegun, 1), event(api.EKinds, 1)}, row, api.ErrArg)
		wantError(t, []api.Event{{Kind: api.ERead, Var: 8}}, row, api.ErrArg)
	}
}

// P10.1, P10.3: all rows of two transactions that read and write, and of three: what the words define, and what follows.
func TestAllRows(t *testing.T) {
	whole, part := 0, 0
	see := func(h []api.Event) {
		more, less := wantDefined(t, h)
		whole, part = whole+more, part+less
	}
	two := opRows([]api.Op{read(1, 0), read(1, 5), write(1, 5), write(1, 0), read(7, 5), write(7, 5)}, 2)
	for _, a := range two {
		for _, b := range two {
			see(slices.Concat(transaction(8, a), transaction(3, b)))
		}
	}
	one := opRows([]api.Op{read(1, 0), read(1, 5), write(1, 5), write(1, 0)}, 1)
	for _, a := range one {
		for _, b := range one {
			for _, c := range two[:13] {
				see(slices.Concat(transaction(8, a), transaction(3, b), transaction(5, c)))
			}
		}
	}
	if whole < 1000 || part < 1000 {
		t.Error("rows that are legal, and that are not:", whole, part)
	}
}

// P10.1, P10.3: all events of two transactions, of all kinds, up to a length.
func TestAllEvents(t *testing.T) {
	seen := 0
	var grow func(h []api.Event)
	grow = func(h []api.Event) {
		seen++
		wantDefined(t, h)
		if len(h) == 7 {
			return
		}
		for tx := range 2 {
			kinds, err := proper.Next(h, tx)
			if err != api.OK {
				t.Fatal(h, err)
			}
			for _, kind := range kinds {
				e := event(kind, tx)
				if kind == api.EWrite {
					e.Val = 4
				}
				grow(append(slices.Clone(h), e))
			}
		}
	}
	grow(nil)
	if seen < 500 {
		t.Error("rows of events:", seen)
	}
}

// P10.2: the first read that is not of what it may: of the memory, of what the transaction wrote itself, and of what it writes later on.
func TestOwn(t *testing.T) {
	m := memory(3, -4, 0, 0, 0, 0, 0, 9)
	for _, c := range []struct {
		ops  []api.Op
		want int
	}{
		{nil, 0},
		{[]api.Op{}, 0},
		{[]api.Op{read(0, 3)}, 1},
		{[]api.Op{read(0, 0)}, 0},
		{[]api.Op{read(7, 9), read(1, -4), read(6, 0)}, 3},
		{[]api.Op{read(7, 9), read(1, 4), read(0, 1)}, 1},
		{[]api.Op{write(0, 5), read(0, 5)}, 2},
		{[]api.Op{write(0, 5), read(0, 3)}, 1},
		{[]api.Op{write(0, 5), read(1, -4), read(1, 5)}, 2},
		{[]api.Op{write(0, 5), write(0, 6), read(0, 6), read(0, 5)}, 3},
		{[]api.Op{read(0, 5), write(0, 5)}, 0},
		{[]api.Op{read(0, 3), write(0, 5), read(0, 3)}, 2},
		{[]api.Op{write(7, 0), read(7, 0), write(7, 9), read(7, 9), read(7, 0)}, 4},
		{[]api.Op{write(2, 1), write(3, 2)}, 2},
		{[]api.Op{read(0, 3+1<<32)}, 0},
	} {
		wantOwn(t, c.ops, m, c.want, api.OK)
	}
}

// P10.2: the Ops alone count of a transaction; values and Ops may be of any number.
func TestOwnAnything(t *testing.T) {
	m := memory(math.MaxInt, math.MinInt)
	one := api.Txn{Name: -5, First: math.MaxInt, Last: -1, State: 99, Ops: []api.Op{read(1, math.MinInt), write(1, math.MaxInt), read(0, math.MaxInt), read(1, math.MinInt)}}
	if got, err := legal.Own(one, m); got != 3 || err != api.OK {
		t.Errorf("Own(%v, %v) = %d, %d", one, m, got, err)
	}
	many := make([]api.Op, 300000)
	wantOwn(t, many, memory(), len(many), api.OK)
	many[299999].Val = 1
	wantOwn(t, many, memory(), 299999, api.OK)
	wantOwn(t, append(many, write(8, 0)), memory(), 0, api.ErrNone)
}

// P10.2: a memory that is not 8 values, ahead of a variable that is none.
func TestOwnMemory(t *testing.T) {
	for _, n := range []int{0, 1, 6, 7, 9, 16, 256, 264} {
		wantOwn(t, nil, make([]int, n), 0, api.ErrArg)
		wantOwn(t, []api.Op{write(0, 1), read(0, 1)}, make([]int, n), 0, api.ErrArg)
		wantOwn(t, []api.Op{read(8, 0)}, make([]int, n), 0, api.ErrArg)
	}
	wantOwn(t, nil, nil, 0, api.ErrArg)
	wantOwn(t, nil, make([]int, 9)[:8], 0, api.OK)
	wantOwn(t, nil, make([]int, 8)[:7], 0, api.ErrArg)
}

// P10.2: a variable that is none, of a read or a write, also behind a read that is not of what it may.
func TestOwnVariable(t *testing.T) {
	for _, variable := range []int{-1, 8, 9, 256, 1 << 32, math.MinInt, math.MaxInt} {
		for _, op := range []api.Op{read(variable, 0), write(variable, 0)} {
			wantOwn(t, []api.Op{op}, memory(), 0, api.ErrNone)
			wantOwn(t, []api.Op{read(0, 0), op}, memory(), 0, api.ErrNone)
			wantOwn(t, []api.Op{read(0, 0), read(0, 1), op}, memory(), 0, api.ErrNone)
			wantOwn(t, []api.Op{op, read(0, 1)}, memory(), 0, api.ErrNone)
		}
	}
}

// P10.2: of all short rows of Ops what the words define.
func TestOwnAllRows(t *testing.T) {
	m := memory(5, 0, 0, 0, 0, 0, 0, 6)
	for _, ops := range opRows([]api.Op{read(0, 5), read(0, 6), write(0, 5), write(0, 6), read(7, 6), write(7, 0), read(7, 0)}, 4) {
		wantOwn(t, ops, m, definedOwn(ops, m), api.OK)
	}
}

// R1: an answer is the caller's own: what is written into it changes no other one.
func TestMemoryIsNew(t *testing.T) {
	h := transaction(2, []api.Op{write(3, 5)})
	for _, row := range [][]int{nil, {0}} {
		m, _ := legal.Memory(h, row, 1)
		want := slices.Clone(m)
		m[3], m[4] = 77, 78
		if again, _ := legal.Memory(h, row, 1); !slices.Equal(again, want) {
			t.Errorf("Memory(%v, %v) = %v behind a change of its answer; want %v", h, row, again, want)
		}
	}
}
