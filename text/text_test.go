package text_test

import (
	"math"
	"slices"
	"strconv"
	"strings"
	"testing"

	"recant/api"
	"recant/text"
)

// form is what the document says of a kind.
type form struct {
	word   string
	hasVar bool
	hasVal bool
}

var forms = []form{
	{"begin", false, false},
	{"begun", false, false},
	{"read", true, false},
	{"got", false, true},
	{"write", true, true},
	{"wrote", false, false},
	{"commit", false, false},
	{"committed", false, false},
	{"cancel", false, false},
	{"aborted", false, false},
}

// numbers is how many numbers an event of the form has.
func (f form) numbers() int {
	n := 1
	if f.hasVar {
		n++
	}
	if f.hasVal {
		n++
	}
	return n
}

// line is a text of an event of the form, without a byte 10: its numbers are 4, and so on up.
func (f form) line() string {
	s := f.word
	for i := range f.numbers() {
		s += " " + strconv.Itoa(4+i)
	}
	return s
}

// plain is an event of a kind that may be.
func plain(kind int) api.Event {
	return api.Event{Kind: kind, Tx: 1}
}

func wantRight(t *testing.T, h []api.Event, want bool) {
	t.Helper()
	if got := text.Right(h); got != want {
		t.Errorf("Right(%v) = %v", h, got)
	}
}

// wantOne holds Right and Print of an event, at the first, at a later and at the last place, to what is said of it.
func wantOne(t *testing.T, e api.Event, want bool) {
	t.Helper()
	p := plain(api.EBegin)
	for _, h := range [][]api.Event{{e}, {e, p, p}, {p, e, p}, {p, p, e}} {
		wantRight(t, h, want)
		s, err := text.Print(h)
		if want && (err != api.OK || strings.Count(s, "\n") != len(h)) || !want && (err != api.ErrArg || s != "") {
			t.Errorf("Print(%v) = %q, %d", h, s, err)
		}
	}
}

func wantParse(t *testing.T, s string, want []api.Event) {
	t.Helper()
	h, at, err := text.Parse(s)
	if err != api.OK || at != 0 || !slices.Equal(h, want) {
		t.Errorf("Parse(%.200q) = %v, %d, %d; want %v", s, h, at, err, want)
	}
}

// before are texts without events, and with some: what is wrong behind them is told as far behind.
var before = []string{
	"", "\n", "\n\n\n", "# only a comment\n", " \t \n", "#\n\n \t# begin 1 2\n\n", "begin 1\n", "begin 1\n\n# x\n  write 1 7 -3 # y\n\t\n",
}

// wantFault holds Parse to the error of a text, and to its place, also behind other lines.
func wantFault(t *testing.T, s string, at int, err api.Errno) {
	t.Helper()
	for _, b := range before {
		h, gotAt, gotErr := text.Parse(b + s)
		if gotErr != err || gotAt != len(b)+at || len(h) != 0 {
			t.Errorf("Parse(%.200q) = %v, %d, %d; want %d, %d", b+s, h, gotAt, gotErr, len(b)+at, err)
		}
	}
}

// wantFaultAlone is for texts that other lines ahead would change.
func wantFaultAlone(t *testing.T, s string, at int, err api.Errno) {
	t.Helper()
	h, gotAt, gotErr := text.Parse(s)
	if gotErr != err || gotAt != at || len(h) != 0 {
		t.Errorf("Parse(%.200q) = %v, %d, %d; want %d, %d", s, h, gotAt, gotErr, at, err)
	}
}

// P2.1: an event has one of the kinds.
func TestRightKind(t *testing.T) {
	for kind := range api.EKinds {
		wantOne(t, plain(kind), true)
	}
	for _, kind := range []int{-1, -2, api.EKinds, api.EKinds + 1, 255, 256, 1 << 32, 1<<32 + 1, -1 << 32, math.MaxInt, math.MinInt} {
		wantOne(t, plain(kind), false)
	}
}

// P2.1: the name of a transaction, at its ends and beyond, of each kind.
func TestRightName(t *testing.T) {
	for kind := range api.EKinds {
		for _, name := range []int{0, 1, 6, 7, 8, 4000, api.MaxName - 1, api.MaxName} {
			wantOne(t, api.Event{Kind: kind, Tx: name}, true)
		}
		for _, name := range []int{-1, -2, api.MinVal, api.MaxName + 1, 10001, 65536, api.MaxVal, 1 << 32, 1<<32 + 1, math.MaxInt, math.MinInt} {
			wantOne(t, api.Event{Kind: kind, Tx: name}, false)
		}
	}
}

// P2.1: a variable, at its ends and beyond; none, where a kind has none.
func TestRightVar(t *testing.T) {
	for kind, f := range forms {
		for v := range api.MaxVar + 1 {
			wantOne(t, api.Event{Kind: kind, Tx: 1, Var: v}, f.hasVar || v == 0)
		}
		for _, v := range []int{-1, -7, -8, api.MaxVar + 1, 9, 256, api.MinVal, api.MaxVal, 1 << 32, 1<<32 + 1, math.MaxInt, math.MinInt} {
			wantOne(t, api.Event{Kind: kind, Tx: 1, Var: v}, false)
		}
	}
}

// P2.1: a value, at its ends and beyond; none, where a kind has none.
func TestRightVal(t *testing.T) {
	for kind, f := range forms {
		wantOne(t, api.Event{Kind: kind, Tx: 1, Val: 0}, true)
		for _, v := range []int{1, -1, 5, 10000, -10000, api.MaxVal - 1, api.MaxVal, api.MinVal + 1, api.MinVal} {
			wantOne(t, api.Event{Kind: kind, Tx: 1, Val: v}, f.hasVal)
		}
		for _, v := range []int{api.MaxVal + 1, api.MinVal - 1, 1 << 32, 1<<32 + 1, -1 << 32, math.MaxInt, math.MinInt} {
			wantOne(t, api.Event{Kind: kind, Tx: 1, Val: v}, false)
		}
	}
}

// P2.1: all numbers of an event at their ends at once, and one beyond among them.
func TestRightAllNumbers(t *testing.T) {
	wantOne(t, api.Event{Kind: api.EWrite, Tx: api.MaxName, Var: api.MaxVar, Val: api.MaxVal}, true)
	wantOne(t, api.Event{Kind: api.EWrite, Tx: api.MaxName, Var: api.MaxVar, Val: api.MinVal}, true)
	wantOne(t, api.Event{Kind: api.EWrite, Tx: api.MaxName + 1, Var: api.MaxVar, Val: api.MaxVal}, false)
	wantOne(t, api.Event{Kind: api.EWrite, Tx: api.MaxName, Var: api.MaxVar + 1, Val: api.MaxVal}, false)
	wantOne(t, api.Event{Kind: api.EWrite, Tx: api.MaxName, Var: api.MaxVar, Val: api.MaxVal + 1}, false)
	wantOne(t, api.Event{Kind: api.ERead, Tx: 1, Var: 1, Val: 1}, false)
	wantOne(t, api.Event{Kind: api.EGot, Tx: 1, Var: 1, Val: 1}, false)
}

// P2.1: how many events there may be.
func TestRightEvents(t *testing.T) {
	wantRight(t, nil, true)
	wantRight(t, []api.Event{}, true)
	for _, n := range []int{1, 59, 60} {
		wantRight(t, make([]api.Event, n), true)
	}
	for _, n := range []int{61, 62, 120, 1000} {
		wantRight(t, make([]api.Event, n), false)
		if s, err := text.Print(make([]api.Event, n)); s != "" || err != api.ErrArg {
			t.Errorf("Print of %d events = %q, %d", n, s, err)
		}
	}
}

// named are events of these names, one each.
func named(names ...int) []api.Event {
	var h []api.Event
	for _, n := range names {
		h = append(h, api.Event{Tx: n})
	}
	return h
}

// P2.1: how many transactions there may be: they are told by their names, also 0, and whatever their kinds are.
func TestRightTransactions(t *testing.T) {
	wantRight(t, named(0, 1, 2, 3, 4, 5), true)
	wantRight(t, named(9999, 8, 300, 7, 21, 6), true)
	wantRight(t, named(0, 1, 2, 3, 4, 5, 0, 5, 3, 1), true)
	wantRight(t, named(7, 7, 7, 7, 7, 7, 7, 7), true)
	for _, h := range [][]api.Event{
		named(0, 1, 2, 3, 4, 5, 6), named(1, 2, 3, 4, 5, 6, 0), named(1, 2, 3, 4, 5, 6, 7), named(9999, 8, 300, 7, 21, 6, 5),
		named(1, 1, 2, 2, 3, 3, 4, 4, 5, 5, 6, 6, 7), named(1, 2, 3, 4, 5, 6, 6, 5, 4, 3, 2, 1, 9999), named(0, 1, 2, 3, 4, 5, 6, 7, 8, 9),
	} {
		wantRight(t, h, false)
		if s, err := text.Print(h); s != "" || err != api.ErrArg {
			t.Errorf("Print(%v) = %q, %d", h, s, err)
		}
	}
	full := make([]api.Event, 60)
	for i := range full {
		full[i] = api.Event{Kind: i % 2, Tx: i % 6}
	}
	wantRight(t, full, true)
	full[59].Tx = 6
	wantRight(t, full, false)
}

func wantLike(t *testing.T, a, b []api.Event, want bool) {
	t.Helper()
	if text.Like(a, b) != want || text.Like(b, a) != want {
		t.Errorf("Like(%v, %v) is not %v both ways", a, b, want)
	}
}

// P2.1: rows that are the same, and such as part in one number, in length, or in their order.
func TestLike(t *testing.T) {
	row := []api.Event{{Kind: api.ERead, Tx: 1, Var: 2}, {Kind: api.EGot, Tx: 1, Val: 3}, {Kind: api.EWrite, Tx: 4, Var: 5, Val: 6}}
	wantLike(t, row, row, true)
	wantLike(t, row, slices.Clone(row), true)
	for i := range row {
		for _, change := range []func(e *api.Event){
			func(e *api.Event) { e.Kind++ }, func(e *api.Event) { e.Tx++ }, func(e *api.Event) { e.Var++ }, func(e *api.Event) { e.Val++ },
			func(e *api.Event) { e.Val += 1 << 32 }, func(e *api.Event) { e.Tx, e.Var = e.Var, e.Tx+9 },
		} {
			other := slices.Clone(row)
			change(&other[i])
			wantLike(t, row, other, false)
		}
	}
	for n := range len(row) {
		wantLike(t, row, row[:n], false)
		wantLike(t, row, row[n+1:], false)
	}
	wantLike(t, row, append(slices.Clone(row), api.Event{}), false)
	wantLike(t, row, []api.Event{row[1], row[0], row[2]}, false)
	wantLike(t, row, []api.Event{row[0], row[2], row[1]}, false)
}

// P2.1, R3: nil is as an empty row, and as no other.
func TestLikeNil(t *testing.T) {
	wantLike(t, nil, nil, true)
	wantLike(t, nil, []api.Event{}, true)
	wantLike(t, []api.Event{}, []api.Event{}, true)
	wantLike(t, nil, []api.Event{{}}, false)
	wantLike(t, nil, make([]api.Event, 61), false)
}

// P2.1: rows may be asked of that may not be.
func TestLikeAnyEvents(t *testing.T) {
	wantLike(t, []api.Event{{Kind: -1, Tx: -5}}, []api.Event{{Kind: -1, Tx: -5}}, true)
	wantLike(t, []api.Event{{Kind: -1}}, []api.Event{{Kind: 10}}, false)
	wantLike(t, []api.Event{{Var: 1}}, []api.Event{{}}, false)
	wantLike(t, make([]api.Event, 100), make([]api.Event, 100), true)
	wantLike(t, make([]api.Event, 100), make([]api.Event, 99), false)
}

// P2.1: each kind's very text.
func TestPrintKinds(t *testing.T) {
	for _, c := range []struct {
		e    api.Event
		want string
	}{
		{api.Event{Kind: api.EBegin, Tx: 0}, "begin 0\n"},
		{api.Event{Kind: api.EBegun, Tx: 12}, "begun 12\n"},
		{api.Event{Kind: api.ERead, Tx: 3, Var: 7}, "read 3 7\n"},
		{api.Event{Kind: api.ERead, Tx: 3}, "read 3 0\n"},
		{api.Event{Kind: api.EGot, Tx: 3, Val: -5}, "got 3 -5\n"},
		{api.Event{Kind: api.EGot, Tx: 3}, "got 3 0\n"},
		{api.Event{Kind: api.EWrite, Tx: 3, Var: 1, Val: -5}, "write 3 1 -5\n"},
		{api.Event{Kind: api.EWrite, Tx: 0, Var: 0, Val: 0}, "write 0 0 0\n"},
		{api.Event{Kind: api.EWrite, Tx: 9999, Var: 7, Val: -2147483648}, "write 9999 7 -2147483648\n"},
		{api.Event{Kind: api.EWrite, Tx: 9999, Var: 7, Val: 2147483647}, "write 9999 7 2147483647\n"},
		{api.Event{Kind: api.EWrote, Tx: 345}, "wrote 345\n"},
		{api.Event{Kind: api.ECommit, Tx: 9999}, "commit 9999\n"},
		{api.Event{Kind: api.ECommitted, Tx: 1}, "committed 1\n"},
		{api.Event{Kind: api.ECancel, Tx: 2}, "cancel 2\n"},
		{api.Event{Kind: api.EAborted, Tx: 10}, "aborted 10\n"},
	} {
		if s, err := text.Print([]api.Event{c.e}); s != c.want || err != api.OK {
			t.Errorf("Print(%v) = %q, %d; want %q", c.e, s, err, c.want)
		}
	}
}

// P2.1: events are printed in order, each with its byte 10; of none nothing is.
func TestPrintRows(t *testing.T) {
	for _, h := range [][]api.Event{nil, {}} {
		if s, err := text.Print(h); s != "" || err != api.OK {
			t.Errorf("Print of none = %q, %d", s, err)
		}
	}
	h := []api.Event{{Kind: api.ECommit, Tx: 2}, {Kind: api.EBegin, Tx: 1}, {Kind: api.ECommit, Tx: 2}, {Kind: api.EGot, Tx: 7, Val: 10}}
	if s, err := text.Print(h); s != "commit 2\nbegin 1\ncommit 2\ngot 7 10\n" || err != api.OK {
		t.Errorf("Print = %q, %d", s, err)
	}
	if s, err := text.Print(make([]api.Event, 60)); s != strings.Repeat("begin 0\n", 60) || err != api.OK {
		t.Errorf("Print of 60 = %q, %d", s, err)
	}
}

// R4: what is handed in is not changed.
func TestKeepsEvents(t *testing.T) {
	h := []api.Event{{Kind: api.ERead, Tx: 3, Var: 7}, {Kind: api.EGot, Tx: 3, Val: -5}}
	was := slices.Clone(h)
	text.Print(h)
	text.Right(h)
	text.Like(h, h[:1])
	if !slices.Equal(h, was) {
		t.Error(h)
	}
}

// R1: a call's answer is its own: what a caller writes into it changes no other answer.
func TestParseIsNew(t *testing.T) {
	h, _, _ := text.Parse("begin 1\nread 1 2\n")
	h[0], h[1] = api.Event{Kind: 9}, api.Event{Kind: 8}
	wantParse(t, "begin 1\nread 1 2\n", []api.Event{{Kind: api.EBegin, Tx: 1}, {Kind: api.ERead, Tx: 1, Var: 2}})
}

// P2.2: each kind's event, its numbers at their ends.
func TestParseKinds(t *testing.T) {
	for s, e := range map[string]api.Event{
		"begin 1":                   {Kind: api.EBegin, Tx: 1},
		"begun 0":                   {Kind: api.EBegun, Tx: 0},
		"read 9999 7":               {Kind: api.ERead, Tx: 9999, Var: 7},
		"read 7 0":                  {Kind: api.ERead, Tx: 7, Var: 0},
		"got 5 2147483647":          {Kind: api.EGot, Tx: 5, Val: 2147483647},
		"got 5 -2147483648":         {Kind: api.EGot, Tx: 5, Val: -2147483648},
		"got 0 8":                   {Kind: api.EGot, Tx: 0, Val: 8},
		"write 3 1 -5":              {Kind: api.EWrite, Tx: 3, Var: 1, Val: -5},
		"write 8 7 10000":           {Kind: api.EWrite, Tx: 8, Var: 7, Val: 10000},
		"write 9999 7 -2147483648":  {Kind: api.EWrite, Tx: 9999, Var: 7, Val: -2147483648},
		"write 0 0 0":               {Kind: api.EWrite},
		"wrote 3":                   {Kind: api.EWrote, Tx: 3},
		"commit 4":                  {Kind: api.ECommit, Tx: 4},
		"committed 9999":            {Kind: api.ECommitted, Tx: 9999},
		"cancel 2":                  {Kind: api.ECancel, Tx: 2},
		"aborted 1":                 {Kind: api.EAborted, Tx: 1},
		" \twrite\t3  1 \t -5 \t":   {Kind: api.EWrite, Tx: 3, Var: 1, Val: -5},
		"write 3 1 -5# 6":           {Kind: api.EWrite, Tx: 3, Var: 1, Val: -5},
		"write 3 1 -5 # 6 # begin":  {Kind: api.EWrite, Tx: 3, Var: 1, Val: -5},
		"\n\n# x\n\t\nbegin 1":      {Kind: api.EBegin, Tx: 1},
		"begin 1\n\n# x\n\t \n#":    {Kind: api.EBegin, Tx: 1},
		"#begin 2\nbegin 1#begin 3": {Kind: api.EBegin, Tx: 1},
	} {
		wantParse(t, s, []api.Event{e})
		wantParse(t, s+"\n", []api.Event{e})
		wantParse(t, "\n"+s+"\n\n", []api.Event{e})
		wantParse(t, s+"\nbegin 1\n"+s, []api.Event{e, {Kind: api.EBegin, Tx: 1}, e})
	}
}

// P2.2: texts without events.
func TestParseNone(t *testing.T) {
	for _, s := range []string{"", "\n", "\n\n\n", " ", "\t", " \t \n\t", "#", "# begin", "#\n#\n", "  # begin x\n\n#", strings.Repeat("\n", 3000), strings.Repeat("#", 3000)} {
		wantParse(t, s, nil)
	}
}

// P2.2: lines are events in order; a line's end is a byte 10, and nothing else.
func TestParseLines(t *testing.T) {
	wantParse(t, "begin 2\nbegin 1\n\nbegun 1 # x\n\tread 1 3\ngot 1 0\nbegin 2", []api.Event{
		{Kind: api.EBegin, Tx: 2}, {Kind: api.EBegin, Tx: 1}, {Kind: api.EBegun, Tx: 1}, {Kind: api.ERead, Tx: 1, Var: 3}, {Kind: api.EGot, Tx: 1}, {Kind: api.EBegin, Tx: 2},
	})
	wantFault(t, "begin 1\r\nbegin 2\r\n", 6, api.ErrSyntax)
	wantFault(t, "begin 1\rbegin 2", 6, api.ErrSyntax)
	wantFault(t, "begin 1;begin 2", 6, api.ErrSyntax)
	wantFault(t, "begin 1 begin 2", 8, api.ErrSyntax)
	wantFault(t, "begin 1\x0bbegin 2", 6, api.ErrSyntax)
}

// P2.2: how long a text may be, whatever is in it.
func TestParseLength(t *testing.T) {
	begin := []api.Event{{Kind: api.EBegin, Tx: 1}}
	wantParse(t, strings.Repeat(" ", 2992)+"begin 1\n", begin)
	wantParse(t, "begin 1\n#"+strings.Repeat("x", 2991), begin)
	wantParse(t, "begin 1\n"+strings.Repeat("\n", 2992), begin)
	wantFaultAlone(t, strings.Repeat("\n", 2995)+"begin", 3000, api.ErrEnd)
	wantFaultAlone(t, strings.Repeat("\n", 2994)+"begin\n", 2999, api.ErrEnd)
	wantFaultAlone(t, strings.Repeat("x", 3000), 0, api.ErrSyntax)
	for _, s := range []string{
		strings.Repeat(" ", 3001), strings.Repeat("\n", 3001), strings.Repeat("#", 3001), strings.Repeat("x", 3001),
		strings.Repeat(" ", 2993) + "begin 1\n", "begin 1\n#" + strings.Repeat("x", 2992),
		"begin 1\nfoo\n" + strings.Repeat(" ", 3000), strings.Repeat("begin 1\n", 400), strings.Repeat("\x00", 100000),
	} {
		wantFaultAlone(t, s, 0, api.ErrLarge)
	}
}

// P2.2: how many events there may be: a first word, and no other line, is one too many.
func TestParseEvents(t *testing.T) {
	sixty := strings.Repeat("begin 1\n", 60)
	want := make([]api.Event, 60)
	for i := range want {
		want[i].Tx = 1
	}
	wantParse(t, sixty, want)
	wantParse(t, sixty[:len(sixty)-1], want)
	wantParse(t, sixty+"\n# x\n \t\n", want)
	wantParse(t, "\n#\n"+strings.ReplaceAll(sixty, "\n", "\n\n"), want)
	wantFaultAlone(t, sixty+"begin 1", 480, api.ErrLarge)
	wantFaultAlone(t, sixty+"\n# x\n\t begin 1\nfoo\n", 487, api.ErrLarge)
	wantFaultAlone(t, "\n\n"+sixty+sixty, 482, api.ErrLarge)
	// Whatever word the first one is, and whatever is behind it.
	for _, s := range []string{"foo", "begin", "begin x", "begin 10000", "begin 1 2", "1", "begin 2", "\x00"} {
		wantFaultAlone(t, sixty+" "+s+"\n", 481, api.ErrLarge)
	}
	// What is wrong ahead of it is told.
	wantFaultAlone(t, strings.Repeat("begin 1\n", 59)+"begin x\nbegin 1", 59*8+6, api.ErrSyntax)
	wantFaultAlone(t, strings.Repeat("begin 1\n", 59)+"begin\nbegin 1", 59*8+5, api.ErrEnd)
}

// P2.2: a first word that is no kind's.
func TestParseFirstWord(t *testing.T) {
	for _, w := range []string{
		"foo", "0", "1", "9", "-1", "x", "Begin", "BEGIN", "beginn", "begi", "begin1", "begin:", "xbegin", "reads", "rea", "gott", "go", "commi",
		"commits", "committe", "committedd", "abort", "aborte", "canceled", "cancelled", "write1", "wrot", "begin\r", "begin\x00", "\x00", "\xff", "\r", "\x0b", "\u00a0begin", "b\xc3egin", "EBegin",
	} {
		for _, behind := range []string{"", " ", " 1", "\t1\n", " 1 2 3", " x\n", "# 1", "\nbegin 1\n"} {
			wantFault(t, w+behind, 0, api.ErrSyntax)
			wantFault(t, " \t"+w+behind, 2, api.ErrSyntax)
		}
	}
}

// P2.2: a number that is not there, of each kind: the line's end is told, behind blanks and a comment.
func TestParseEnd(t *testing.T) {
	for _, f := range forms {
		words := strings.Fields(f.line())
		for n := 1; n < len(words); n++ {
			s := strings.Join(words[:n], " ")
			for _, tail := range []string{"", " ", "\t  ", "#", "# 1 2 3", " # 1", " #\t"} {
				end := len(s + tail)
				wantFault(t, s+tail, end, api.ErrEnd)
				wantFault(t, s+tail+"\n", end, api.ErrEnd)
				wantFault(t, s+tail+"\n1 2 3\n", end, api.ErrEnd)
				wantFault(t, s+tail+"\n\nfoo", end, api.ErrEnd)
				wantFault(t, " \t"+s+tail+"\nbegin 1\n", end+2, api.ErrEnd)
			}
		}
	}
}

// P2.2: a word too many, of each kind, whatever it is; more of them are not looked at.
func TestParseTooMany(t *testing.T) {
	for _, f := range forms {
		s := f.line()
		for _, w := range []string{"1", "0", "x", "01", "begin", "99999999999", "-", "\r", "\x00"} {
			for _, behind := range []string{"", "\n", " 2", "\tx\n", "# x", "\nfoo\n"} {
				wantFault(t, s+" "+w+behind, len(s)+1, api.ErrSyntax)
				wantFault(t, "\t"+s+" \t "+w+behind, len(s)+4, api.ErrSyntax)
			}
		}
	}
}

// wantNumber holds a number of a kind, the n-th behind its word, with this text, to its error, whatever is behind it.
func wantNumber(t *testing.T, f form, n int, w string, err api.Errno) {
	t.Helper()
	words := strings.Fields(f.line())
	s := strings.Join(words[:n], " ") + " "
	for _, behind := range []string{"", "\n", " ", "# x", " 1 2 3", " x\n", " 01 99999999999\nfoo\n", "\n\nbegin"} {
		wantFault(t, s+w+behind, len(s), err)
	}
	whole := slices.Clone(words)
	whole[n] = w
	wantFault(t, strings.Join(whole, " "), len(s), err)
	wantFault(t, "\t"+strings.Join(whole, " \t ")+"\n", 1+len(s)+2*n, err)
}

// P2.2: word.Int's errors of each number of each kind.
func TestParseNumbers(t *testing.T) {
	for _, f := range forms {
		for n := 1; n <= f.numbers(); n++ {
			for _, w := range []string{"x", "-", "-0", "00", "01", "-01", "+1", "1x", "0x1", "1.0", "begin", "99999999999x", "010000", "1\r", "1\x00", "\xff", "\u0661"} {
				wantNumber(t, f, n, w, api.ErrSyntax)
			}
			for _, w := range []string{"2147483648", "-2147483649", "4294967296", "4294967297", "18446744073709551617", "-99999999999999999999"} {
				wantNumber(t, f, n, w, api.ErrOver)
			}
		}
	}
}

// P2.2: a number that is beyond its limits.
func TestParseLimits(t *testing.T) {
	for _, f := range forms {
		for _, w := range []string{"10000", "10001", "-1", "-9999", "65536", "2147483647", "-2147483648"} {
			wantNumber(t, f, 1, w, api.ErrOver)
		}
		if !f.hasVar {
			continue
		}
		for _, w := range []string{"8", "9", "-1", "-7", "256", "10000", "2147483647", "-2147483648"} {
			wantNumber(t, f, 2, w, api.ErrOver)
		}
	}
}

// P2.2: the first number that is wrong is told.
func TestParseFirstNumber(t *testing.T) {
	wantFault(t, "write x 8 01", 6, api.ErrSyntax)
	wantFault(t, "write 10000 8 01 4", 6, api.ErrOver)
	wantFault(t, "write 1 8 01 4", 8, api.ErrOver)
	wantFault(t, "write 1 x 2147483648", 8, api.ErrSyntax)
	wantFault(t, "write 1 7 2147483648 4", 10, api.ErrOver)
	wantFault(t, "write 1 7 01 4", 10, api.ErrSyntax)
	wantFault(t, "read 10000", 5, api.ErrOver)
	wantFault(t, "write 1 8", 8, api.ErrOver)
	wantFault(t, "begin 1\nbegin 10000\nfoo", 14, api.ErrOver)
}

// P2.2: a name that is the 7th transaction's: behind its own errors, and ahead of all that is behind it.
func TestParseTransactions(t *testing.T) {
	six := "begin 0\nread 11 1\ngot 2 1 # 7\n\nwrite 9999 1 1\nwrote 4\ncommit 5\n"
	again := "begin 5\nbegin 4\nbegin 9999\nbegin 2\nbegin 11\nbegin 0\n"
	want, at, err := text.Parse(six)
	if len(want) != 6 || at != 0 || err != api.OK {
		t.Fatal(want, at, err)
	}
	wantParse(t, six+again, append(slices.Clone(want), named(5, 4, 9999, 2, 11, 0)...))
	for _, ahead := range []string{six, six + again, six + "\n # 1\n"} {
		for _, f := range forms {
			for _, name := range []string{"1", "12", "9998", "6"} {
				s := ahead + f.word + " "
				for _, behind := range []string{"", "\n", " x", " 8", " 1 1 1 1", "\nfoo", " 99999999999"} {
					wantFaultAlone(t, s+name+behind, len(s), api.ErrLarge)
				}
			}
			s := ahead + f.word + " "
			wantFaultAlone(t, s+"10000", len(s), api.ErrOver)
			wantFaultAlone(t, s+"-1", len(s), api.ErrOver)
			wantFaultAlone(t, s+"2147483648", len(s), api.ErrOver)
			wantFaultAlone(t, s+"01", len(s), api.ErrSyntax)
			wantFaultAlone(t, s, len(s), api.ErrEnd)
		}
	}
	// A name that is known goes on to what is behind it.
	wantFaultAlone(t, six+"read 9999 8", len(six)+10, api.ErrOver)
	wantFaultAlone(t, six+"begin 0 1", len(six)+8, api.ErrSyntax)
}

// P2.2: of two lines that are wrong the first is told.
func TestParseFirstLine(t *testing.T) {
	faults := []struct {
		line string
		at   int
		err  api.Errno
	}{
		{"foo", 0, api.ErrSyntax}, {"begin", 5, api.ErrEnd}, {"begin x", 6, api.ErrSyntax}, {"read 1 8", 7, api.ErrOver}, {"begin 1 1", 8, api.ErrSyntax}, {"got 1 2147483648", 6, api.ErrOver},
	}
	for _, a := range faults {
		for _, b := range faults {
			wantFault(t, a.line+"\n"+b.line+"\n", a.at, a.err)
		}
	}
}

// wantBack holds events that may be to being printed, and read, as the same.
func wantBack(t *testing.T, h []api.Event) {
	t.Helper()
	if !text.Right(h) {
		t.Fatalf("Right(%v) is false", h)
	}
	s, err := text.Print(h)
	if err != api.OK {
		t.Fatalf("Print(%v): %d", h, err)
	}
	back, at, err := text.Parse(s)
	if err != api.OK || at != 0 || !text.Like(back, h) || !slices.Equal(back, h) {
		t.Fatalf("Print(%v) = %q, read as %v, %d, %d", h, s, back, at, err)
	}
}

// allOf are events of a kind with their numbers at both ends and between.
func allOf(kind int, f form) []api.Event {
	vars, vals := []int{0}, []int{0}
	if f.hasVar {
		vars = []int{0, 1, 6, 7}
	}
	if f.hasVal {
		vals = []int{0, 1, -1, 10, -10, 9999, 10000, 1000000000, api.MaxVal, api.MaxVal - 1, api.MinVal, api.MinVal + 1}
	}
	var all []api.Event
	for _, tx := range []int{0, 1, 9, 10, 9990, 9999} {
		for _, v := range vars {
			for _, val := range vals {
				all = append(all, api.Event{Kind: kind, Tx: tx, Var: v, Val: val})
			}
		}
	}
	return all
}

// P2.3: what is printed is read as the same events.
func TestPrintedIsRead(t *testing.T) {
	wantBack(t, nil)
	var all []api.Event
	for kind, f := range forms {
		for _, e := range allOf(kind, f) {
			wantBack(t, []api.Event{e})
			all = append(all, e)
		}
	}
	// Rows of up to 60 of them, which have six names together; a fixed stride mixes the kinds.
	for n := range 61 {
		for from := range 40 {
			var h []api.Event
			for i := range n {
				h = append(h, all[(from*97+i*31)%len(all)])
			}
			wantBack(t, h)
		}
	}
	// The longest text of all.
	longest := make([]api.Event, 60)
	for i := range longest {
		longest[i] = api.Event{Kind: api.EWrite, Tx: 9994 + i%6, Var: 7, Val: api.MinVal}
	}
	wantBack(t, longest)
}

// texts are all texts of up to n of these pieces.
func texts(pieces []string, n int) []string {
	all := []string{""}
	last := all
	for range n {
		var next []string
		for _, s := range last {
			for _, p := range pieces {
				next = append(next, s+p)
			}
		}
		all = append(all, next...)
		last = next
	}
	return all
}

// P2.3: what is read may be, and, printed, is read so again; what is not read is told by an error, at a place in the text, and has no events.
func TestReadIsPrinted(t *testing.T) {
	read := 0
	for _, s := range texts([]string{"begin ", "read ", "got ", "write", " 1 ", "7", " -1", "#", "\n", "\t"}, 5) {
		h, at, err := text.Parse(s)
		switch err {
		case api.OK:
			wantBack(t, h)
			if at != 0 {
				t.Errorf("Parse(%q): at %d", s, at)
			}
			read += len(h)
		case api.ErrSyntax, api.ErrOver, api.ErrEnd:
			if len(h) != 0 || at < 0 || at > len(s) {
				t.Errorf("Parse(%q) = %v, %d, %d", s, h, at, err)
			}
		default:
			t.Errorf("Parse(%q): error %d", s, err)
		}
	}
	if read == 0 {
		t.Error("no text has an event")
	}
}

// P1, R5: each byte in each place of a text ends with an answer, as the bytes that part words and lines, begin a comment or are a number's say.
func TestParseEachByte(t *testing.T) {
	one := api.Event{Kind: api.EBegin, Tx: 1}
	for b := range 256 {
		c := string([]byte{byte(b)})
		switch {
		case b == '\n' || b == '#':
			wantFault(t, "begin"+c+"1", map[bool]int{true: 5, false: 7}[b == '\n'], api.ErrEnd)
			wantParse(t, "begin 1"+c, []api.Event{one})
			wantParse(t, c+"\nbegin 1", []api.Event{one})
		case b == '\t' || b == ' ':
			wantParse(t, c+"begin"+c+"1"+c, []api.Event{one})
		default:
			wantFault(t, c+"begin 1", 0, api.ErrSyntax)
			wantFault(t, "begin"+c+"1", 0, api.ErrSyntax)
			wantFault(t, "be"+c+"gin 1", 0, api.ErrSyntax)
			wantFault(t, "begin 1 "+c, 8, api.ErrSyntax)
			if b >= '0' && b <= '9' {
				wantParse(t, "begin 1"+c, []api.Event{{Kind: api.EBegin, Tx: 10 + b - '0'}})
			} else {
				wantFault(t, "begin 1"+c, 6, api.ErrSyntax)
			}
		}
		wantParse(t, "begin 1#"+c+"\n", []api.Event{one})
	}
}
