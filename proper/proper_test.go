package proper_test

import (
	"math"
	"regexp"
	"slices"
	"strings"
	"testing"

	"recant/api"
	"recant/proper"
	"recant/text"
)

// formed are the kinds of one transaction's well-formed events, a digit each, up to any place.
var formed = regexp.MustCompile(`^(0(9|1(23|45)*(2|29|4|49|6|67|69|8|89)?)?)?$`)

// isFormed tells of each transaction alone whether its events are well formed.
func isFormed(h []api.Event) bool {
	digits := map[int]string{}
	for _, e := range h {
		digits[e.Tx] += string(rune('0' + e.Kind))
	}
	for _, s := range digits {
		if !formed.MatchString(s) {
			return false
		}
	}
	return true
}

// of is an event of a kind that may be, of a name.
func of(kind, tx int) api.Event {
	return api.Event{Kind: kind, Tx: tx}
}

// row are events of one name: their kinds are digits.
func row(digits string, tx int) []api.Event {
	var h []api.Event
	for _, d := range digits {
		h = append(h, of(int(d-'0'), tx))
	}
	return h
}

// behind is a list of its own of some events and one more.
func behind(h []api.Event, e api.Event) []api.Event {
	return append(slices.Clone(h), e)
}

// states are what a transaction may be, each with the kinds of its events that lead there, and the kinds that may come next.
var states = []struct {
	state  string
	digits string
	next   []int
}{
	{"new", "", []int{api.EBegin}},
	{"beginning", "0", []int{api.EBegun, api.EAborted}},
	{"ready", "01", []int{api.ERead, api.EWrite, api.ECommit, api.ECancel}},
	{"reading", "012", []int{api.EGot, api.EAborted}},
	{"ready behind a read", "0123", []int{api.ERead, api.EWrite, api.ECommit, api.ECancel}},
	{"writing", "014", []int{api.EWrote, api.EAborted}},
	{"ready behind a write", "0145", []int{api.ERead, api.EWrite, api.ECommit, api.ECancel}},
	{"reading again", "01232", []int{api.EGot, api.EAborted}},
	{"writing behind a read", "01234", []int{api.EWrote, api.EAborted}},
	{"committing", "016", []int{api.ECommitted, api.EAborted}},
	{"committing behind both", "0123456", []int{api.ECommitted, api.EAborted}},
	{"cancelling", "018", []int{api.EAborted}},
	{"cancelling behind a write", "01458", []int{api.EAborted}},
	{"committed", "0167", nil},
	{"aborted as it began", "09", nil},
	{"aborted as it read", "0129", nil},
	{"aborted as it wrote", "0149", nil},
	{"aborted as it committed", "0169", nil},
	{"aborted as it cancelled", "0189", nil},
}

// long are 60 well-formed events: those of one name, its last one an answer.
var long = row("01"+strings.Repeat("2345", 14)+"67", 1)

func wantCheck(t *testing.T, h []api.Event, at int, err api.Errno) {
	t.Helper()
	was := slices.Clone(h)
	if gotAt, gotErr := proper.Check(h); gotAt != at || gotErr != err {
		t.Fatalf("Check(%v) = %d, %d; want %d, %d", h, gotAt, gotErr, at, err)
	}
	if !slices.Equal(h, was) {
		t.Fatalf("Check(%v) left %v", was, h)
	}
}

func wantNext(t *testing.T, h []api.Event, tx int, kinds ...int) {
	t.Helper()
	was := slices.Clone(h)
	if got, err := proper.Next(h, tx); !slices.Equal(got, kinds) || err != api.OK {
		t.Fatalf("Next(%v, %d) = %v, %d; want %v", h, tx, got, err, kinds)
	}
	if !slices.Equal(h, was) {
		t.Fatalf("Next(%v, %d) left %v", was, tx, h)
	}
}

func wantNoNext(t *testing.T, h []api.Event, tx int, err api.Errno) {
	t.Helper()
	if got, gotErr := proper.Next(h, tx); len(got) != 0 || gotErr != err {
		t.Fatalf("Next(%v, %d) = %v, %d; want %d", h, tx, got, gotErr, err)
	}
}

// wantFault holds both calls to the first event that may not be there: Check to its place.
func wantFault(t *testing.T, h []api.Event, at int) {
	t.Helper()
	wantCheck(t, h, at, api.ErrForm)
	for _, tx := range []int{0, 1, 2, 3, -1, api.MaxName} {
		wantNoNext(t, h, tx, api.ErrForm)
	}
}

// wantArg holds both calls to these events' not being such as may be.
func wantArg(t *testing.T, h []api.Event) {
	t.Helper()
	wantCheck(t, h, 0, api.ErrArg)
	for _, tx := range []int{0, 1, 2, -1, math.MaxInt} {
		wantNoNext(t, h, tx, api.ErrArg)
	}
}

// P5.1: no events are well formed, of a nil list and of an empty one.
func TestCheckNone(t *testing.T) {
	wantCheck(t, nil, 0, api.OK)
	wantCheck(t, []api.Event{}, 0, api.OK)
}

// P5.1: in each state each kind.
func TestCheckStates(t *testing.T) {
	for _, c := range states {
		h := row(c.digits, 1)
		wantCheck(t, h, len(h), api.OK)
		for kind := range api.EKinds {
			one := behind(h, of(kind, 1))
			if slices.Contains(c.next, kind) {
				wantCheck(t, one, len(h)+1, api.OK)
				continue
			}
			wantFault(t, one, len(h))
		}
	}
}

// P5.1: the first event that may not be there is told, whatever comes behind it.
func TestCheckFirst(t *testing.T) {
	for _, c := range []struct {
		h  []api.Event
		at int
	}{
		{[]api.Event{of(api.EBegun, 1), of(api.EBegin, 1), of(api.EBegun, 1)}, 0},
		{[]api.Event{of(api.EBegin, 1), of(api.EBegin, 1), of(api.EBegun, 1)}, 1},
		{[]api.Event{of(api.EBegin, 1), of(api.EGot, 1), of(api.EGot, 1), of(api.EGot, 2)}, 1},
		{[]api.Event{of(api.EBegin, 1), of(api.EBegin, 2), of(api.ERead, 2), of(api.ERead, 1)}, 2},
		{[]api.Event{of(api.EBegin, 1), of(api.EAborted, 1), of(api.EAborted, 1)}, 2},
		{append(row("0167", 1), row("0167", 1)...), 4},
		{append(row("0167", 1), row("01679", 2)...), 8},
		{append(row("0169", 1), row("7", 1)...), 4},
	} {
		wantFault(t, c.h, c.at)
	}
}

// P5.1: a transaction's state is its own: others' events do not move it.
func TestCheckOthers(t *testing.T) {
	h := []api.Event{of(api.EBegin, 1), of(api.EBegin, 2), of(api.EBegun, 2), of(api.EAborted, 1), of(api.ERead, 2), of(api.EBegin, 3), of(api.EGot, 2)}
	wantCheck(t, h, 7, api.OK)
	wantNext(t, h, 1)
	wantNext(t, h, 2, api.ERead, api.EWrite, api.ECommit, api.ECancel)
	wantNext(t, h, 3, api.EBegun, api.EAborted)
	wantFault(t, []api.Event{of(api.EBegin, 1), of(api.EBegin, 2), of(api.EBegun, 2), of(api.ERead, 1)}, 3)
	wantFault(t, []api.Event{of(api.EBegin, 1), of(api.EBegun, 2)}, 1)
	wantFault(t, []api.Event{of(api.EBegin, 0), of(api.EBegun, 0), of(api.ERead, 0), of(api.EGot, 9999)}, 3)
}

// P5.1: variables and values are any that may be: what is answered need not be what was written.
func TestCheckNumbers(t *testing.T) {
	h := row("01", 9999)
	for variable := range api.MaxVar + 1 {
		for _, val := range []int{0, -1, api.MaxVal, api.MinVal} {
			one := append(slices.Clone(h), api.Event{Kind: api.ERead, Tx: 9999, Var: variable}, api.Event{Kind: api.EGot, Tx: 9999, Val: val},
				api.Event{Kind: api.EWrite, Tx: 9999, Var: variable, Val: val}, of(api.EWrote, 9999))
			wantCheck(t, one, 6, api.OK)
			wantNext(t, one, 9999, api.ERead, api.EWrite, api.ECommit, api.ECancel)
		}
	}
}

// P5.1, P5.2: as many events and transactions as there may be, and one more.
func TestMost(t *testing.T) {
	wantCheck(t, long, 60, api.OK)
	wantNext(t, long, 1)
	wantNext(t, long[:59], 1, api.ECommitted, api.EAborted)
	wantNext(t, long, 2, api.EBegin)
	wantArg(t, behind(long, of(api.EBegin, 2)))
	wantArg(t, behind(long, of(api.EAborted, 1)))
	wantFault(t, behind(long[:59], of(api.EBegun, 1)), 59)
	var six []api.Event
	for _, tx := range []int{5, 0, 9999, 1, 7, 3} {
		six = append(six, of(api.EBegin, tx))
	}
	wantCheck(t, six, 6, api.OK)
	wantNext(t, six, 7, api.EBegun, api.EAborted)
	wantArg(t, behind(six, of(api.EBegin, 2)))
}

// P5.1, P5.2: events that may not be; that is told ahead of events that are not well formed.
func TestArg(t *testing.T) {
	p := of(api.EBegin, 1)
	for _, e := range []api.Event{
		{Kind: -1}, {Kind: api.EKinds}, {Kind: math.MaxInt}, {Kind: math.MinInt}, {Kind: 1 << 32},
		{Tx: -1}, {Tx: api.MaxName + 1}, {Tx: math.MinInt}, {Tx: 1 << 32},
		{Kind: api.EBegin, Var: 1}, {Kind: api.EBegin, Val: 1}, {Kind: api.EGot, Var: 1}, {Kind: api.ERead, Val: 1},
		{Kind: api.ERead, Var: api.MaxVar + 1}, {Kind: api.ERead, Var: -1},
		{Kind: api.EGot, Val: api.MaxVal + 1}, {Kind: api.EWrite, Val: api.MinVal - 1},
	} {
		wantArg(t, []api.Event{e})
		wantArg(t, []api.Event{e, p, p})
		wantArg(t, []api.Event{p, p, e})
		wantArg(t, []api.Event{of(api.EGot, 1), e})
	}
	wantArg(t, make([]api.Event, 61))
	var seven []api.Event
	for tx := range api.MaxTx + 1 {
		seven = append(seven, of(api.EAborted, tx))
	}
	wantArg(t, seven)
	wantFault(t, seven[:api.MaxTx], 0)
	wantFault(t, make([]api.Event, 60), 1)
}

// P5.2: in each state the kinds that may come next, also behind others' events, and of a transaction that has none.
func TestNextStates(t *testing.T) {
	for _, c := range states {
		for _, tx := range []int{0, 1, 9999} {
			h := row(c.digits, tx)
			wantNext(t, h, tx, c.next...)
			wantNext(t, h, 2, api.EBegin)
			wantNext(t, append(row("0123", 2), h...), tx, c.next...)
			wantNext(t, append(h, row("0149", 2)...), tx, c.next...)
		}
	}
	wantNext(t, nil, 1, api.EBegin)
	wantNext(t, []api.Event{}, 0, api.EBegin)
}

// P5.2: the name that is asked for is no event's: of any of which there is no event the transaction is new.
func TestNextAnyName(t *testing.T) {
	for _, tx := range []int{-1, api.MaxName + 1, 1 << 32, 1<<32 + 1, math.MaxInt, math.MinInt} {
		wantNext(t, nil, tx, api.EBegin)
		wantNext(t, row("01", 1), tx, api.EBegin)
		wantNext(t, long, tx, api.EBegin)
	}
}

// P5.2: of events that are not well formed nothing is told, of those either whose own are.
func TestNextForm(t *testing.T) {
	h := append(row("012", 1), row("1", 2)...)
	wantNoNext(t, h, 1, api.ErrForm)
	wantNoNext(t, h, 2, api.ErrForm)
	wantNoNext(t, h, 3, api.ErrForm)
}

// P5.1: all rows of kinds of one transaction, held against what such rows are.
func TestCheckAllRows(t *testing.T) {
	var rows func(h []api.Event, left int)
	rows = func(h []api.Event, left int) {
		at, err := len(h), api.OK
		for i := range h {
			if !isFormed(h[:i+1]) {
				at, err = i, api.ErrForm
				break
			}
		}
		wantCheck(t, h, at, err)
		if left == 0 {
			return
		}
		for kind := range api.EKinds {
			rows(behind(h, of(kind, 4)), left-1)
		}
	}
	rows(nil, 4)
}

// P5.3: what is well formed is so up to any place, and an event behind it may be there just if its kind is told: in all rows of two transactions' events, up to a length.
func TestNextAllRows(t *testing.T) {
	seen := 0
	var grow func(h []api.Event, left int)
	grow = func(h []api.Event, left int) {
		seen++
		for _, tx := range []int{3, 8} {
			var told []int
			for kind := range api.EKinds {
				one := behind(h, of(kind, tx))
				if !isFormed(one) {
					wantCheck(t, one, len(h), api.ErrForm)
					continue
				}
				wantCheck(t, one, len(one), api.OK)
				told = append(told, kind)
				if left > 0 {
					grow(one, left-1)
				}
			}
			wantNext(t, h, tx, told...)
		}
	}
	grow(nil, 6)
	if seen < 1000 {
		t.Error("rows:", seen)
	}
}

// P5.3: longer rows, up to each place.
func TestUpToAnyPlace(t *testing.T) {
	s := "begin 1\nbegin 2\nbegun 2\nbegun 1\nread 1 0\nwrite 2 0 5\ngot 1 0\nwrote 2\ncommit 2\nbegin 3\nwrite 1 7 -1\naborted 3\ncommitted 2\naborted 1\nbegin 4\nbegun 4\ncancel 4\naborted 4\n"
	parsed, _, err := text.Parse(s)
	if err != api.OK {
		t.Fatal(err)
	}
	for _, h := range [][]api.Event{parsed, long} {
		for i := range len(h) + 1 {
			wantCheck(t, h[:i], i, api.OK)
			if i < len(h) {
				kinds, err := proper.Next(h[:i], h[i].Tx)
				if err != api.OK || !slices.Contains(kinds, h[i].Kind) {
					t.Errorf("Next of %d events = %v, %d; the next one is %v", i, kinds, err, h[i])
				}
			}
		}
	}
}

// R1: an answer is the caller's own: what is written into it changes no other one.
func TestNextIsNew(t *testing.T) {
	h := row("01", 1)
	kinds, _ := proper.Next(h, 1)
	kinds[0] = 77
	for range 50 {
		wantNext(t, h, 1, api.ERead, api.EWrite, api.ECommit, api.ECancel)
	}
}
