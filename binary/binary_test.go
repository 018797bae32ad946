package binary_test

import (
	"bytes"
	"math"
	"slices"
	"strings"
	"testing"

	"recant/api"
	"recant/binary"
	"recant/text"
)

// form is what the document says of a kind.
type form struct {
	hasVar bool
	hasVal bool
}

var forms = []form{{}, {}, {hasVar: true}, {hasVal: true}, {true, true}, {}, {}, {}, {}, {}}

// join are bytes behind each other, in memory of their own.
func join(parts ...[]byte) []byte {
	return slices.Concat(parts...)
}

// put are a number's bytes, told by division.
func put(n uint64) []byte {
	if n < 128 {
		return []byte{byte(n)}
	}
	return join([]byte{byte(n%128 + 128)}, put(n/128))
}

// signed are a signed number's bytes.
func signed(n int) []byte {
	if n < 0 {
		return put(uint64(-2*n - 1))
	}
	return put(uint64(2 * n))
}

// parts are the pieces of an event's body: its kind, and each of its numbers.
func parts(e api.Event) [][]byte {
	all := [][]byte{{byte(e.Kind)}, put(uint64(e.Tx))}
	if forms[e.Kind].hasVar {
		all = append(all, put(uint64(e.Var)))
	}
	if forms[e.Kind].hasVal {
		all = append(all, signed(e.Val))
	}
	return all
}

// sized is a body with its size ahead.
func sized(body []byte) []byte {
	return join(put(uint64(len(body))), body)
}

// written are events' bytes.
func written(h []api.Event) []byte {
	b := put(uint64(len(h)))
	for _, e := range h {
		b = join(b, sized(join(parts(e)...)))
	}
	return b
}

// plain is an event of a kind that may be: its numbers are 0, but for its name, and take a byte each.
func plain(kind int) api.Event {
	return api.Event{Kind: kind, Tx: 1}
}

// wide is an event of a kind whose numbers take as many bytes as they may.
func wide(kind int) api.Event {
	e := api.Event{Kind: kind, Tx: api.MaxName}
	if forms[kind].hasVar {
		e.Var = api.MaxVar
	}
	if forms[kind].hasVal {
		e.Val = api.MinVal
	}
	return e
}

// named are events of these names, one each.
func named(names ...int) []api.Event {
	var h []api.Event
	for _, n := range names {
		h = append(h, api.Event{Tx: n})
	}
	return h
}

// huge are numbers that 32 or 64 bits would wrap round into small ones, or that no int has.
var huge = []uint64{1 << 31, 1 << 32, 1<<32 + 1, 1<<32 + 2, 1<<63 - 1, 1 << 63, 1<<63 + 1, 1<<64 - 256, 1<<64 - 2, 1<<64 - 1}

// noNumbers are bytes that are no number's, wherever they stand, and at which place, and why.
var noNumbers = []struct {
	b   []byte
	at  int
	err api.Errno
}{
	{[]byte{128, 0}, 1, api.ErrSyntax},
	{[]byte{255, 0}, 1, api.ErrSyntax},
	{[]byte{129, 128, 0, 0}, 2, api.ErrSyntax},
	{join(bytes.Repeat([]byte{128}, 9), []byte{0}), 9, api.ErrSyntax},
	{join(bytes.Repeat([]byte{255}, 9), []byte{2}), 9, api.ErrOver},
	{bytes.Repeat([]byte{128}, 12), 9, api.ErrOver},
}

// noEnds are bytes of a number that goes on behind them.
var noEnds = [][]byte{nil, {128}, {255}, {172, 130}, bytes.Repeat([]byte{128}, 9), bytes.Repeat([]byte{255}, 9)}

// wantParse holds Parse to an answer, and to leaving the bytes as they were; also when there is room behind them, with bytes that are none of theirs.
func wantParse(t *testing.T, b []byte, h []api.Event, at int, err api.Errno) {
	t.Helper()
	for _, behind := range [][]byte{nil, {0, 0, 0}, {1, 2, 0, 1}, {255, 255, 1}} {
		in := join(b, behind)[:len(b)]
		gotH, gotAt, gotErr := binary.Parse(in)
		if !slices.Equal(gotH, h) || gotAt != at || gotErr != err {
			t.Fatalf("Parse(%.200v) = %v, %d, %d; want %v, %d, %d", b, gotH, gotAt, gotErr, h, at, err)
		}
		if !bytes.Equal(in, b) {
			t.Fatalf("Parse(%.200v) left %.200v", b, in)
		}
	}
}

func wantRead(t *testing.T, h []api.Event) {
	t.Helper()
	wantParse(t, written(h), h, 0, api.OK)
}

func wantFault(t *testing.T, b []byte, at int, err api.Errno) {
	t.Helper()
	wantParse(t, b, nil, at, err)
}

// before are events that may be ahead of others: they name two transactions.
var before = [][]api.Event{nil, {plain(api.EBegin)}, {wide(api.EWrite), plain(api.EGot), wide(api.EAborted), plain(api.ERead)}}

// behind are bytes that may follow: events, parts of such, and none.
var behind = [][]byte{nil, {0}, {1}, {2, 0, 1}, {128}, {255, 255, 255}, {0, 0}, {10}, bytes.Repeat([]byte{1}, 70)}

// wantEvent holds Parse to the error of the bytes of one event, wherever that stands; and, if it is not ahead of the end, whatever follows.
func wantEvent(t *testing.T, event []byte, at int, err api.Errno) {
	t.Helper()
	for _, h := range before {
		for _, count := range []uint64{uint64(len(h)) + 1, uint64(len(h)) + 2, api.MaxEvents} {
			start := join(put(count), written(h)[1:])
			wantFault(t, join(start, event), len(start)+at, err)
			if err == api.ErrEnd && at == len(event) {
				continue
			}
			for _, follow := range behind {
				wantFault(t, join(start, event, follow), len(start)+at, err)
			}
		}
	}
}

// wantBody holds Parse to the error of a body, that is told at this place of it, whatever follows the body.
func wantBody(t *testing.T, body []byte, at int, err api.Errno) {
	t.Helper()
	event := sized(body)
	start := len(event) - len(body)
	wantEvent(t, event, start+at, err)
	if err != api.ErrEnd {
		return
	}
	// A number goes on behind the body: that ends where it does all the same.
	for _, follow := range behind {
		for _, h := range before {
			whole := join(put(uint64(len(h))+1), written(h)[1:], event)
			wantFault(t, join(whole, follow), len(whole)-len(body)+at, err)
		}
	}
}

func wantPrint(t *testing.T, h []api.Event, want ...byte) {
	t.Helper()
	was := slices.Clone(h)
	b, err := binary.Print(h)
	if err != api.OK || !bytes.Equal(b, want) {
		t.Errorf("Print(%v) = %v, %d; want %v", h, b, err, want)
	}
	if !slices.Equal(h, was) {
		t.Errorf("Print(%v) left %v", was, h)
	}
}

func wantNoPrint(t *testing.T, h ...api.Event) {
	t.Helper()
	if b, err := binary.Print(h); err != api.ErrArg || len(b) != 0 {
		t.Errorf("Print(%v) = %v, %d", h, b, err)
	}
}

// P4.1: each kind's bytes, written out.
func TestPrintKinds(t *testing.T) {
	for _, c := range []struct {
		e    api.Event
		body []byte
	}{
		{api.Event{Kind: api.EBegin, Tx: 0}, []byte{0, 0}},
		{api.Event{Kind: api.EBegun, Tx: 12}, []byte{1, 12}},
		{api.Event{Kind: api.ERead, Tx: 300, Var: 2}, []byte{2, 172, 2, 2}},
		{api.Event{Kind: api.ERead, Tx: 3}, []byte{2, 3, 0}},
		{api.Event{Kind: api.EGot, Tx: 3, Val: -5}, []byte{3, 3, 9}},
		{api.Event{Kind: api.EGot, Tx: 3}, []byte{3, 3, 0}},
		{api.Event{Kind: api.EGot, Tx: 3, Val: 150}, []byte{3, 3, 172, 2}},
		{api.Event{Kind: api.EWrite, Tx: 3, Var: 1, Val: -1}, []byte{4, 3, 1, 1}},
		{api.Event{Kind: api.EWrite, Tx: 3, Var: 7, Val: 1}, []byte{4, 3, 7, 2}},
		{api.Event{Kind: api.EWrite}, []byte{4, 0, 0, 0}},
		{api.Event{Kind: api.EWrite, Tx: 9999, Var: 7, Val: -2147483648}, []byte{4, 143, 78, 7, 255, 255, 255, 255, 15}},
		{api.Event{Kind: api.EWrite, Tx: 127, Var: 7, Val: 2147483647}, []byte{4, 127, 7, 254, 255, 255, 255, 15}},
		{api.Event{Kind: api.EWrote, Tx: 128}, []byte{5, 128, 1}},
		{api.Event{Kind: api.ECommit, Tx: 9999}, []byte{6, 143, 78}},
		{api.Event{Kind: api.ECommitted, Tx: 1}, []byte{7, 1}},
		{api.Event{Kind: api.ECancel, Tx: 2}, []byte{8, 2}},
		{api.Event{Kind: api.EAborted, Tx: 10}, []byte{9, 10}},
	} {
		wantPrint(t, []api.Event{c.e}, join([]byte{1, byte(len(c.body))}, c.body)...)
		wantPrint(t, []api.Event{c.e, c.e}, join([]byte{2, byte(len(c.body))}, c.body, []byte{byte(len(c.body))}, c.body)...)
	}
}

// P4.1: how many events there are is told, also of none and of 60, and they are in order.
func TestPrintRows(t *testing.T) {
	wantPrint(t, nil, 0)
	wantPrint(t, []api.Event{}, 0)
	wantPrint(t, []api.Event{{Kind: api.ECommit, Tx: 2}, {Kind: api.EBegin, Tx: 1}, {Kind: api.EGot, Tx: 7, Val: 10}}, 3, 2, 6, 2, 2, 0, 1, 3, 3, 7, 20)
	wantPrint(t, make([]api.Event, 60), join([]byte{60}, bytes.Repeat([]byte{2, 0, 0}, 60))...)
}

// P4.1: events that may not be.
func TestPrintArg(t *testing.T) {
	wantNoPrint(t, make([]api.Event, 61)...)
	wantNoPrint(t, make([]api.Event, 1000)...)
	wantNoPrint(t, named(1, 2, 3, 4, 5, 6, 0)...)
	var faults []api.Event
	for _, kind := range []int{-1, api.EKinds, 256, 1 << 32, math.MaxInt, math.MinInt} {
		faults = append(faults, api.Event{Kind: kind, Tx: 1})
	}
	for kind, f := range forms {
		for _, n := range []int{-1, 1 << 32, math.MaxInt, math.MinInt} {
			faults = append(faults, api.Event{Kind: kind, Tx: n}, api.Event{Kind: kind, Var: n})
		}
		faults = append(faults, api.Event{Kind: kind, Tx: api.MaxName + 1}, api.Event{Kind: kind, Var: api.MaxVar + 1})
		faults = append(faults, api.Event{Kind: kind, Val: api.MaxVal + 1}, api.Event{Kind: kind, Val: api.MinVal - 1})
		if !f.hasVar {
			faults = append(faults, api.Event{Kind: kind, Var: 1})
		}
		if !f.hasVal {
			faults = append(faults, api.Event{Kind: kind, Val: 1}, api.Event{Kind: kind, Val: -1})
		}
	}
	p := plain(api.EBegin)
	for _, e := range faults {
		wantNoPrint(t, e)
		wantNoPrint(t, e, p, p)
		wantNoPrint(t, p, p, e)
	}
}

func wantIs(t *testing.T, b []byte, want bool) {
	t.Helper()
	if binary.Is(b) != want {
		t.Errorf("Is(%v) is not %v", b, want)
	}
}

// P4.1: each byte, alone and at each place among others.
func TestIsEachByte(t *testing.T) {
	wantIs(t, nil, true)
	wantIs(t, []byte{}, true)
	for b := range 256 {
		c := byte(b)
		want := b == 9 || b == 10 || 32 <= b && b <= 126
		for _, row := range [][]byte{{c}, {c, 'a', 'a'}, {'a', c, 'a'}, {'a', 'a', c}, {c, 9, 10, 32, 126}, {9, 10, 32, 126, c}} {
			wantIs(t, row, want)
		}
		wantIs(t, []byte{c, 0}, false)
		wantIs(t, []byte{255, c}, false)
	}
}

// P4.1: texts, and such as have one byte that is none of theirs.
func TestIsTexts(t *testing.T) {
	long := bytes.Repeat([]byte("begin 1 # x\n\t~"), 1000)
	wantIs(t, []byte("begin 1\nread 1 2\ngot 1 -5\n"), true)
	wantIs(t, []byte("no trace at all"), true)
	wantIs(t, long, true)
	wantIs(t, join(long, []byte{127}), false)
	wantIs(t, join([]byte{31}, long), false)
	wantIs(t, join(long, []byte{13, 10}, long), false)
	wantIs(t, []byte("begin \u0661"), false)
	was := slices.Clone(long)
	binary.Is(long)
	if !bytes.Equal(long, was) {
		t.Error("Is changed the bytes")
	}
}

// P4.2: each kind's event, its numbers at their ends.
func TestParseKinds(t *testing.T) {
	for kind, f := range forms {
		for _, name := range []int{0, 1, 6, 10, 127, 128, 300, api.MaxName - 1, api.MaxName} {
			wantRead(t, []api.Event{{Kind: kind, Tx: name}})
		}
		if f.hasVar {
			for v := range api.MaxVar + 1 {
				wantRead(t, []api.Event{{Kind: kind, Tx: 1, Var: v}})
			}
		}
		if f.hasVal {
			for _, v := range []int{0, 1, -1, 63, 64, -64, -65, 9999, api.MaxVal - 1, api.MaxVal, api.MinVal, api.MinVal + 1} {
				wantRead(t, []api.Event{{Kind: kind, Tx: 1, Val: v}})
			}
		}
		wantRead(t, []api.Event{wide(kind), plain(kind), wide(kind)})
	}
	wantParse(t, []byte{1, 4, 2, 172, 2, 2}, []api.Event{{Kind: api.ERead, Tx: 300, Var: 2}}, 0, api.OK)
	wantParse(t, []byte{2, 9, 4, 143, 78, 7, 254, 255, 255, 255, 15, 2, 9, 1}, []api.Event{
		{Kind: api.EWrite, Tx: 9999, Var: 7, Val: 2147483647}, {Kind: api.EAborted, Tx: 1},
	}, 0, api.OK)
}

// P4.2: no events, one, and as many as there may be.
func TestParseRows(t *testing.T) {
	wantParse(t, []byte{0}, nil, 0, api.OK)
	for _, n := range []int{1, 2, 59, 60} {
		wantRead(t, make([]api.Event, n))
		wantRead(t, slices.Repeat([]api.Event{wide(api.EWrite)}, n))
	}
	wantRead(t, []api.Event{{Kind: api.ECommit, Tx: 2}, {Kind: api.EBegin, Tx: 1}, {Kind: api.ECommit, Tx: 2}, {Kind: api.EGot, Tx: 7, Val: 10}})
}

// P4.2: Get's errors of how many events there are; R3: nil is as no bytes.
func TestParseCount(t *testing.T) {
	wantFault(t, []byte{}, 0, api.ErrEnd)
	for _, b := range noEnds {
		wantFault(t, b, len(b), api.ErrEnd)
	}
	for _, c := range noNumbers {
		for _, follow := range behind {
			wantFault(t, join(c.b, follow), c.at, c.err)
		}
	}
}

// P4.2: more events than there may be: 0 is told, ahead of what is wrong behind.
func TestParseTooMany(t *testing.T) {
	for _, n := range append(slices.Clone(huge), 61, 62, 127, 128, 255, 256, 316, 65536, 65596) {
		for _, follow := range append(slices.Clone(behind), bytes.Repeat([]byte{2, 0, 0}, 61)) {
			wantFault(t, join(put(n), follow), 0, api.ErrLarge)
		}
	}
	wantFault(t, written(make([]api.Event, 61)), 0, api.ErrLarge)
}

// P4.2: Get's errors of a body's size.
func TestParseSize(t *testing.T) {
	for _, b := range noEnds {
		wantEvent(t, b, len(b), api.ErrEnd)
	}
	for _, c := range noNumbers {
		wantEvent(t, c.b, c.at, c.err)
	}
}

// P4.2: a size that is above what is left, by one or by as much as may be: the bytes' end is told, whatever is in them.
func TestParseSizeEnd(t *testing.T) {
	for _, left := range [][]byte{nil, {0}, {0, 1}, {10}, {4, 1, 1, 1}, {0, 128, 0}, bytes.Repeat([]byte{255}, 130)} {
		for _, h := range before {
			for _, size := range append(slices.Clone(huge), uint64(len(left))+1, uint64(len(left))+2, 200, 16384) {
				b := join(put(uint64(len(h))+1), written(h)[1:], put(size), left)
				wantFault(t, b, len(b), api.ErrEnd)
			}
		}
	}
}

// P4.2: an event's bytes, cut at each place.
func TestParseCut(t *testing.T) {
	h := []api.Event{wide(api.EWrite), plain(api.EBegin), wide(api.EGot), {Kind: api.ERead, Tx: 300, Var: 2}}
	b := written(h)
	wantRead(t, h)
	for cut := range len(b) {
		wantFault(t, b[:cut], cut, api.ErrEnd)
	}
}

// P4.2: a body of no bytes: where its size begins is told.
func TestParseNoBody(t *testing.T) {
	wantEvent(t, []byte{0}, 0, api.ErrSyntax)
}

// P4.2: a kind is a byte up to 9, whatever is behind it.
func TestParseKind(t *testing.T) {
	for kind := api.EKinds; kind < 256; kind++ {
		for _, numbers := range [][]byte{nil, {1}, {0}, {1, 1, 1}, {128}, {128, 0}, {144, 78}} {
			wantBody(t, join([]byte{byte(kind)}, numbers), 0, api.ErrSyntax)
		}
	}
}

// ahead are the bytes of an event's body ahead of its n-th number, from 1 on.
func ahead(e api.Event, n int) []byte {
	return join(parts(e)[:n]...)
}

// wantNumber holds Parse to the error of the bytes of a number, whichever of whichever kind, whatever follows in the body.
func wantNumber(t *testing.T, kind, n int, b []byte, at int, err api.Errno) {
	t.Helper()
	for _, e := range []api.Event{plain(kind), wide(kind)} {
		start := ahead(e, n)
		for _, follow := range [][]byte{nil, {1}, {0, 0}, {255, 255}, {128, 0}, {1, 2, 3, 4, 5, 6}} {
			wantBody(t, join(start, b, follow), len(start)+at, err)
		}
	}
}

// P4.2: Get's errors of each number of each kind.
func TestParseNumbers(t *testing.T) {
	for kind := range forms {
		for n := 1; n < len(parts(plain(kind))); n++ {
			for _, c := range noNumbers {
				wantNumber(t, kind, n, c.b, c.at, c.err)
			}
		}
	}
}

// P4.2: a number that is not there, or goes on behind its body: the body's end is told, though there are more bytes.
func TestParseNumberEnd(t *testing.T) {
	for kind := range forms {
		for _, e := range []api.Event{plain(kind), wide(kind)} {
			for n := 1; n < len(parts(e)); n++ {
				for _, b := range noEnds {
					body := join(ahead(e, n), b)
					wantBody(t, body, len(body), api.ErrEnd)
				}
			}
			whole := join(parts(e)...)
			for cut := 1; cut < len(whole); cut++ {
				wantBody(t, whole[:cut], cut, api.ErrEnd)
			}
		}
	}
}

// P4.2: numbers beyond their limits: where they begin is told.
func TestParseOver(t *testing.T) {
	for kind, f := range forms {
		for _, name := range append(slices.Clone(huge), 10000, 10001, 16384, 65536, 75535) {
			wantNumber(t, kind, 1, put(name), 0, api.ErrOver)
		}
		n := 2
		if f.hasVar {
			for _, v := range append(slices.Clone(huge), 8, 9, 127, 128, 255, 256, 263) {
				wantNumber(t, kind, n, put(v), 0, api.ErrOver)
			}
			n++
		}
		if f.hasVal {
			for _, v := range append(slices.Clone(huge[1:]), 1<<32+3, 1<<33, 1<<40, 1<<62) {
				wantNumber(t, kind, n, put(v), 0, api.ErrOver)
			}
		}
	}
}

// P4.2: the first number that is wrong is told.
func TestParseFirstNumber(t *testing.T) {
	wantBody(t, []byte{4, 144, 78, 8, 128, 0}, 1, api.ErrOver)
	wantBody(t, []byte{4, 1, 8, 128, 0}, 2, api.ErrOver)
	wantBody(t, []byte{4, 1, 128, 0, 128}, 3, api.ErrSyntax)
	wantBody(t, []byte{4, 1, 7, 128, 128, 128, 128, 16, 0}, 3, api.ErrOver)
	wantBody(t, []byte{4, 144, 78}, 1, api.ErrOver)
	wantBody(t, []byte{4, 1, 8}, 2, api.ErrOver)
	wantBody(t, []byte{2, 1, 8, 1}, 2, api.ErrOver)
	wantBody(t, []byte{10, 144, 78, 8}, 0, api.ErrSyntax)
}

// P4.2: a body that goes on behind its numbers, in each kind.
func TestParseBodyTooLong(t *testing.T) {
	for kind := range forms {
		for _, e := range []api.Event{plain(kind), wide(kind)} {
			body := join(parts(e)...)
			for _, more := range [][]byte{{0}, {1}, {255}, {128, 0}, {2, 0, 1}, bytes.Repeat([]byte{0}, 200)} {
				wantBody(t, join(body, more), len(body), api.ErrSyntax)
			}
		}
	}
}

// P4.2: more bytes behind the last event, also behind none and behind 60.
func TestParseMore(t *testing.T) {
	for _, h := range append(slices.Clone(before), make([]api.Event, 60), named(1, 2, 3, 4, 5, 6)) {
		b := written(h)
		for _, more := range behind {
			if len(more) > 0 {
				wantFault(t, join(b, more), len(b), api.ErrSyntax)
			}
		}
		wantFault(t, join(b, sized([]byte{0, 1})), len(b), api.ErrSyntax)
	}
}

// P4.2: fewer events than are told.
func TestParseFewer(t *testing.T) {
	for _, h := range before {
		for more := uint64(1); more <= 4; more++ {
			b := join(put(uint64(len(h))+more), written(h)[1:])
			wantFault(t, b, len(b), api.ErrEnd)
		}
	}
}

// P4.2: a name that is the 7th transaction's: behind its own errors, and ahead of all that is behind it.
func TestParseTransactions(t *testing.T) {
	six := []api.Event{{Tx: 0}, {Kind: api.ERead, Tx: 11, Var: 1}, {Kind: api.EGot, Tx: 2, Val: 1}, {Kind: api.EWrite, Tx: 9999, Var: 1, Val: 7}, {Kind: api.EWrote, Tx: 4}, {Kind: api.ECommit, Tx: 300}}
	again := append(slices.Clone(six), named(300, 4, 9999, 2, 11, 0)...)
	wantRead(t, six)
	wantRead(t, again)
	for _, h := range [][]api.Event{six, again, append(slices.Clone(six), make([]api.Event, 53)...)} {
		start := join(put(uint64(len(h))+1), written(h)[1:])
		fault := func(body []byte, at int, err api.Errno) {
			t.Helper()
			wantFault(t, join(start, sized(body)), len(start)+1+at, err)
			wantFault(t, join(start, sized(body), []byte{0, 128}), len(start)+1+at, err)
		}
		for kind := range forms {
			k := []byte{byte(kind)}
			for _, name := range []uint64{1, 7, 12, 299, 301, 9998} {
				for _, more := range [][]byte{nil, {1}, {8, 8}, {128, 0}, {1, 1, 1, 1, 1}} {
					fault(join(k, put(name), more), 1, api.ErrLarge)
				}
			}
			fault(join(k, put(10000)), 1, api.ErrOver)
			fault(join(k, put(1<<64-1)), 1, api.ErrOver)
			fault(join(k, []byte{129, 0}), 2, api.ErrSyntax)
			fault(k, 1, api.ErrEnd)
			fault(join(k, []byte{129}), 2, api.ErrEnd)
		}
		// A name that is known goes on to what is behind it.
		fault([]byte{2, 143, 78, 8}, 3, api.ErrOver)
		fault([]byte{0, 0, 1}, 2, api.ErrSyntax)
		fault([]byte{2, 11}, 2, api.ErrEnd)
	}
}

// P4.2: of two events that are wrong the first is told, and each is told ahead of more bytes.
func TestParseFirstEvent(t *testing.T) {
	faults := []struct {
		body []byte
		at   int
		err  api.Errno
	}{
		{nil, -1, api.ErrSyntax}, {[]byte{10, 1}, 0, api.ErrSyntax}, {[]byte{0}, 1, api.ErrEnd}, {[]byte{0, 128, 0}, 2, api.ErrSyntax},
		{[]byte{0, 144, 78}, 1, api.ErrOver}, {[]byte{2, 1, 8}, 2, api.ErrOver}, {[]byte{0, 1, 1}, 2, api.ErrSyntax},
	}
	for _, a := range faults {
		for _, b := range faults {
			wantFault(t, join([]byte{2}, sized(a.body), sized(b.body), []byte{1}), 2+a.at, a.err)
			wantFault(t, join([]byte{3, 2, 0, 1}, sized(a.body), sized(b.body)), 5+a.at, a.err)
		}
	}
}

// wantBack holds events that may be to being printed, and read, as the same.
func wantBack(t *testing.T, h []api.Event) {
	t.Helper()
	if !text.Right(h) {
		t.Fatalf("Right(%v) is false", h)
	}
	b, err := binary.Print(h)
	if err != api.OK || !bytes.Equal(b, written(h)) {
		t.Fatalf("Print(%v) = %v, %d", h, b, err)
	}
	back, at, err := binary.Parse(b)
	if err != api.OK || at != 0 || !text.Like(back, h) {
		t.Fatalf("Print(%v) = %v, read as %v, %d, %d", h, b, back, at, err)
	}
	s, err := text.Print(h)
	if err != api.OK || !binary.Is([]byte(s)) {
		t.Fatalf("text.Print(%v) = %q, %d, is none", h, s, err)
	}
}

// allOf are events of a kind with their numbers at both ends and between.
func allOf(kind int, f form) []api.Event {
	vars, vals := []int{0}, []int{0}
	if f.hasVar {
		vars = []int{0, 1, 6, 7}
	}
	if f.hasVal {
		vals = []int{0, 1, -1, 63, -64, 64, -65, 9999, 10000, 1000000000, api.MaxVal, api.MaxVal - 1, api.MinVal, api.MinVal + 1}
	}
	var all []api.Event
	for _, tx := range []int{0, 1, 127, 128, 9990, 9999} {
		for _, v := range vars {
			for _, val := range vals {
				all = append(all, api.Event{Kind: kind, Tx: tx, Var: v, Val: val})
			}
		}
	}
	return all
}

// P4.3: what is printed is read as the same events; as text it is a text's bytes.
func TestPrintedIsRead(t *testing.T) {
	wantBack(t, nil)
	var all []api.Event
	for kind, f := range forms {
		for _, e := range allOf(kind, f) {
			wantBack(t, []api.Event{e})
			all = append(all, e)
		}
	}
	// Rows of up to 60 of them, which have six names together; a fixed stride mixes the kinds.
	for n := range 61 {
		for from := range 40 {
			var h []api.Event
			for i := range n {
				h = append(h, all[(from*97+i*31)%len(all)])
			}
			wantBack(t, h)
		}
	}
}

// wantTrue holds Parse of any bytes to what must be so of all of its answers, and tells whether they were read.
func wantTrue(t *testing.T, b []byte) bool {
	t.Helper()
	h, at, err := binary.Parse(b)
	if err != api.OK {
		known := err == api.ErrSyntax || err == api.ErrOver || err == api.ErrEnd || err == api.ErrLarge
		if !known || len(h) != 0 || at < 0 || at > len(b) {
			t.Fatalf("Parse(%v) = %v, %d, %d", b, h, at, err)
		}
		return false
	}
	back, err := binary.Print(h)
	if at != 0 || !text.Right(h) || err != api.OK || !bytes.Equal(back, b) {
		t.Fatalf("Parse(%v) = %v, at %d, printed %v, %d", b, h, at, back, err)
	}
	return true
}

// P4.3: what is read may be, and, printed, is those bytes: of all short rows of some bytes.
func TestReadIsPrinted(t *testing.T) {
	of := []byte{0, 1, 2, 3, 4, 10, 128, 255}
	rows := [][]byte{nil}
	read := 0
	for range 6 {
		var next [][]byte
		for _, row := range rows {
			for _, c := range of {
				b := join(row, []byte{c})
				next = append(next, b)
				if wantTrue(t, b) {
					read++
				}
			}
		}
		rows = next
	}
	if read < 30 {
		t.Errorf("%d rows are read", read)
	}
}

// P4.3, P1: what is read of a trace's bytes with one that is another one, is left out, or is put in.
func TestReadOfChanged(t *testing.T) {
	b := written([]api.Event{
		plain(api.EBegin), {Kind: api.ERead, Tx: 300, Var: 2}, wide(api.EWrite), {Kind: api.EGot, Tx: 128, Val: -65},
		{Kind: api.ECommit, Tx: 5}, {Kind: api.EWrite, Tx: 6, Val: 8200}, {Kind: api.ECommitted, Tx: 5}, wide(api.EGot),
	})
	if !wantTrue(t, b) {
		t.Fatal(b)
	}
	read := 0
	for i := range len(b) + 1 {
		for c := range 256 {
			wantTrue(t, join(b[:i], []byte{byte(c)}, b[i:]))
			if i < len(b) && wantTrue(t, join(b[:i], []byte{byte(c)}, b[i+1:])) {
				read++
			}
		}
		if i < len(b) {
			wantTrue(t, join(b[:i], b[i+1:]))
		}
	}
	if read <= len(b) {
		t.Errorf("%d changed traces are read", read)
	}
}

// P1: long bytes end with an answer, too.
func TestParseLong(t *testing.T) {
	wantFault(t, bytes.Repeat([]byte{255}, 1<<20), 9, api.ErrOver)
	wantFault(t, bytes.Repeat([]byte{1}, 1<<20), 3, api.ErrEnd)
	wantFault(t, join([]byte{1}, put(1<<20), bytes.Repeat([]byte{0}, 1<<20)), 6, api.ErrSyntax)
	wantFault(t, []byte(strings.Repeat("begin 1\n", 1000)), 0, api.ErrLarge)
}

// R1: a call's answer is its own: what a caller writes into it changes no other answer, nor what was handed in.
func TestAnswersAreNew(t *testing.T) {
	h := []api.Event{{Kind: api.EBegin, Tx: 1}, {Kind: api.ERead, Tx: 1, Var: 2}}
	b, _ := binary.Print(h)
	clear(b)
	wantPrint(t, h, 2, 2, 0, 1, 3, 2, 1, 2)
	in := written(h)
	read, _, _ := binary.Parse(in)
	clear(read)
	wantParse(t, in, h, 0, api.OK)
}
