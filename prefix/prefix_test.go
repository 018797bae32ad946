package prefix_test

import (
	"math"
	"slices"
	"strings"
	"testing"

	"recant/api"
	"recant/prefix"
	"recant/proper"
	"recant/text"
)

// parse are a text's events; a ';' ends a line, too.
func parse(t *testing.T, s string) []api.Event {
	t.Helper()
	h, at, err := text.Parse(strings.ReplaceAll(s, ";", "\n"))
	if err != api.OK {
		t.Fatalf("Parse(%q): %d at %d", s, err, at)
	}
	return h
}

// event is an event without a variable and a value.
func event(kind, tx int) api.Event {
	return api.Event{Kind: kind, Tx: tx}
}

// wrong are events that may not be, nor are well formed: more than there may be, of any numbers.
func wrong() []api.Event {
	h := []api.Event{event(api.EBegun, 1), event(-1, math.MinInt), event(api.EKinds, math.MaxInt), {Kind: math.MaxInt, Tx: -1, Var: math.MinInt, Val: math.MaxInt}}
	for i := range 100 {
		h = append(h, api.Event{Kind: i, Tx: i % 9, Var: -i, Val: i})
	}
	return h
}

// mixed are well-formed events of four transactions, none of them beside its own next one.
func mixed(t *testing.T) []api.Event {
	t.Helper()
	return parse(t, "begin 4;begin 9999;begun 4;begin 0;begun 9999;write 4 1 -5;begun 0;read 9999 1;wrote 4;got 9999 0;begin 7;commit 4;commit 9999;aborted 7;aborted 9999;cancel 0;committed 4")
}

func wantCut(t *testing.T, h []api.Event, k int, want []api.Event, err api.Errno) {
	t.Helper()
	was := slices.Clone(h)
	if got, gotErr := prefix.Cut(h, k); !slices.Equal(got, want) || gotErr != err {
		t.Fatalf("Cut(%v, %d) = %v, %d; want %v, %d", h, k, got, gotErr, want, err)
	}
	if !slices.Equal(h, was) {
		t.Fatalf("Cut(%v, %d) left %v", was, k, h)
	}
}

func wantOf(t *testing.T, h []api.Event, tx int, want ...api.Event) {
	t.Helper()
	was := slices.Clone(h)
	if got := prefix.Of(h, tx); !slices.Equal(got, want) {
		t.Fatalf("Of(%v, %d) = %v; want %v", h, tx, got, want)
	}
	if !slices.Equal(h, was) {
		t.Fatalf("Of(%v, %d) left %v", was, tx, h)
	}
}

// wantAlike holds Alike to an answer, both ways round.
func wantAlike(t *testing.T, a, b []api.Event, want bool) {
	t.Helper()
	wasA, wasB := slices.Clone(a), slices.Clone(b)
	if prefix.Alike(a, b) != want || prefix.Alike(b, a) != want {
		t.Fatalf("Alike(%v, %v): want %v", a, b, want)
	}
	if !slices.Equal(a, wasA) || !slices.Equal(b, wasB) {
		t.Fatalf("Alike(%v, %v) left %v, %v", wasA, wasB, a, b)
	}
}

func wantSerial(t *testing.T, h []api.Event, want bool, err api.Errno) {
	t.Helper()
	was := slices.Clone(h)
	if got, gotErr := prefix.Serial(h); got != want || gotErr != err {
		t.Fatalf("Serial(%v) = %v, %d; want %v, %d", h, got, gotErr, want, err)
	}
	if !slices.Equal(h, was) {
		t.Fatalf("Serial(%v) left %v", was, h)
	}
}

// names are the transactions' names, once each.
func names(h []api.Event) []int {
	var all []int
	for _, e := range h {
		if !slices.Contains(all, e.Tx) {
			all = append(all, e.Tx)
		}
	}
	return all
}

// ofName are the events of a name, as the chapter's words define them.
func ofName(h []api.Event, name int) []api.Event {
	var all []api.Event
	for i := range h {
		if h[i].Tx == name {
			all = append(all, h[i])
		}
	}
	return all
}

// isDefinedAlike holds the events of each name of both against each other.
func isDefinedAlike(a, b []api.Event) bool {
	for _, name := range append(names(a), names(b)...) {
		if !slices.Equal(ofName(a, name), ofName(b, name)) {
			return false
		}
	}
	return true
}

// isDefinedSerial looks for an event of another name between any two of one.
func isDefinedSerial(h []api.Event) bool {
	for last := range h {
		for first := range last {
			for between := first; between < last; between++ {
				if h[first].Tx == h[last].Tx && h[between].Tx != h[first].Tx {
					return false
				}
			}
		}
	}
	return true
}

// rows are all rows of so many events, each of them one of these.
func rows(events []api.Event, length int) [][]api.Event {
	all := [][]api.Event{nil}
	for ; length > 0; length-- {
		var longer [][]api.Event
		for _, row := range all {
			for _, e := range events {
				longer = append(longer, append(slices.Clone(row), e))
			}
		}
		all = longer
	}
	return all
}

// upTo are all rows of at most so many events.
func upTo(events []api.Event, length int) [][]api.Event {
	var all [][]api.Event
	for n := range length + 1 {
		all = append(all, rows(events, n)...)
	}
	return all
}

// wellFormed are all rows of well-formed events of these names, up to a length.
func wellFormed(t *testing.T, names []int, length int, see func(h []api.Event)) {
	t.Helper()
	var grow func(h []api.Event)
	grow = func(h []api.Event) {
		see(h)
		if len(h) == length {
			return
		}
		for _, tx := range names {
			kinds, err := proper.Next(h, tx)
			if err != api.OK {
				t.Fatal(h, err)
			}
			for _, kind := range kinds {
				grow(append(slices.Clone(h), event(kind, tx)))
			}
		}
	}
	grow(nil)
}

// P8.1: the first events, of each number of them that there is, and of none that there isn't.
func TestCut(t *testing.T) {
	for _, h := range [][]api.Event{nil, {}, parse(t, "begin 1"), mixed(t)} {
		for k := range len(h) + 1 {
			wantCut(t, h, k, h[:k], api.OK)
		}
		for _, k := range []int{-1, -2, len(h) + 1, len(h) + 2, -len(h) - 1, 61, 1 << 32, math.MinInt, math.MaxInt} {
			wantCut(t, h, k, nil, api.ErrArg)
		}
	}
}

// P8.1: events that may not be have first events, too.
func TestCutWrong(t *testing.T) {
	h := wrong()
	for k := range len(h) + 1 {
		wantCut(t, h, k, h[:k], api.OK)
	}
	wantCut(t, h, len(h)+1, nil, api.ErrArg)
	wantCut(t, h, -1, nil, api.ErrArg)
}

// P8.1: a list that is handed in with room behind its end has no more events for that.
func TestCutBehindEnd(t *testing.T) {
	h := mixed(t)
	wantCut(t, h[:4], 4, h[:4], api.OK)
	wantCut(t, h[:4], 5, nil, api.ErrArg)
	wantCut(t, h[:0], 1, nil, api.ErrArg)
}

// R1, R4: the room of the first events is cut, and what is put behind or into them changes no other list.
func TestCutRoom(t *testing.T) {
	h := wrong()
	was := slices.Clone(h)
	for k := range len(h) + 1 {
		l, _ := prefix.Cut(h, k)
		if cap(l) != k {
			t.Fatalf("Cut at %d: room for %d", k, cap(l))
		}
		_ = append(l, event(77, 77))
		clear(l)
		if !slices.Equal(h, was) {
			t.Fatalf("Cut at %d: a change of its answer is one of the events", k)
		}
		wantCut(t, h, k, was[:k], api.OK)
	}
}

// P8.1: the chapter's events of a name, in order, whatever is between them.
func TestOf(t *testing.T) {
	h := mixed(t)
	wantOf(t, h, 4, parse(t, "begin 4;begun 4;write 4 1 -5;wrote 4;commit 4;committed 4")...)
	wantOf(t, h, 9999, parse(t, "begin 9999;begun 9999;read 9999 1;got 9999 0;commit 9999;aborted 9999")...)
	wantOf(t, h, 0, parse(t, "begin 0;begun 0;cancel 0")...)
	wantOf(t, h, 7, parse(t, "begin 7;aborted 7")...)
	for _, tx := range []int{1, 3, 10, -4, -1, 10000, 1<<32 + 4, math.MinInt, math.MaxInt} {
		wantOf(t, h, tx)
		wantOf(t, nil, tx)
		wantOf(t, []api.Event{}, tx)
	}
}

// P8.1: a name alone tells them, and each of them is whole, of events that may not be, too; the same one is there as often as it was.
func TestOfWrong(t *testing.T) {
	h := wrong()
	wantOf(t, h, math.MinInt, h[1])
	wantOf(t, h, math.MaxInt, h[2])
	wantOf(t, h, -1, h[3])
	for tx := range 10 {
		wantOf(t, h, tx, ofName(h, tx)...)
	}
	wantOf(t, h, 9)
	twice := []api.Event{event(api.EBegin, 3), event(api.EBegin, 2), event(api.EBegin, 3), event(api.EBegin, 3)}
	wantOf(t, twice, 3, event(api.EBegin, 3), event(api.EBegin, 3), event(api.EBegin, 3))
	wantOf(t, twice, api.EBegin)
}

// R1, R4: an answer is the caller's own, also where nothing is left out.
func TestOfIsNew(t *testing.T) {
	for _, h := range [][]api.Event{mixed(t), parse(t, "begin 4;begun 4;commit 4")} {
		was := slices.Clone(h)
		l := prefix.Of(h, 4)
		_ = append(l[:1], event(77, 77))
		clear(l)
		wantOf(t, h, 4, ofName(was, 4)...)
		if !slices.Equal(h, was) {
			t.Errorf("%v: a change of Of's answer is one of the events", was)
		}
	}
}

// P8.1: where the events of names stand among each other counts for nothing; all else does.
func TestAlike(t *testing.T) {
	h := mixed(t)
	var gathered []api.Event
	for _, name := range []int{7, 0, 9999, 4} {
		gathered = append(gathered, ofName(h, name)...)
	}
	wantAlike(t, h, h, true)
	wantAlike(t, h, slices.Clone(h), true)
	wantAlike(t, h, gathered, true)
	for i := range h {
		wantAlike(t, gathered, h[:i], false)
		wantAlike(t, gathered, h[i+1:], false)
		wantAlike(t, gathered, slices.Delete(slices.Clone(h), i, i+1), false)
		wantAlike(t, gathered, slices.Insert(slices.Clone(h), i, h[i]), false)
		wantAlike(t, gathered, slices.Insert(slices.Clone(h), i, event(api.EBegin, 5)), false)
		for _, change := range []func(*api.Event){
			func(e *api.Event) { e.Kind++ },
			func(e *api.Event) { e.Tx++ },
			func(e *api.Event) { e.Var++ },
			func(e *api.Event) { e.Val-- },
			func(e *api.Event) { e.Tx += 1 << 32 },
			func(e *api.Event) { e.Val += 1 << 32 },
		} {
			other := slices.Clone(h)
			change(&other[i])
			wantAlike(t, gathered, other, false)
		}
	}
}

// P8.1: two events of one name may not change places, wherever they stand; two of two names may.
func TestAlikeOrder(t *testing.T) {
	h := mixed(t)
	for k := range h {
		for i := range k {
			other := slices.Clone(h)
			other[i], other[k] = other[k], other[i]
			wantAlike(t, h, other, isDefinedAlike(h, other))
		}
	}
	wantAlike(t, parse(t, "begin 1;begin 2;begun 1;aborted 2"), parse(t, "begin 2;aborted 2;begin 1;begun 1"), true)
	wantAlike(t, parse(t, "begin 1;begun 1"), []api.Event{event(api.EBegun, 1), event(api.EBegin, 1)}, false)
	wantAlike(t, parse(t, "begin 1;begin 2"), parse(t, "begin 2;begin 1"), true)
	wantAlike(t, parse(t, "begin 1;begin 2"), parse(t, "begin 1;begin 3"), false)
}

// P8.1, R3: none are alike with none, whether their list is nil or empty, and with nothing else.
func TestAlikeNone(t *testing.T) {
	wantAlike(t, nil, nil, true)
	wantAlike(t, nil, []api.Event{}, true)
	wantAlike(t, nil, []api.Event{{}}, false)
	wantAlike(t, nil, mixed(t), false)
	wantAlike(t, []api.Event{}, wrong(), false)
}

// P8.1: events that may not be, of names as far apart as there are, and of so many that to go through all for each name would not end in time.
func TestAlikeWrong(t *testing.T) {
	h := wrong()
	back := slices.Clone(h[:4])
	slices.Reverse(back)
	wantAlike(t, h, h, true)
	wantAlike(t, h[:4], back, true)
	wantAlike(t, h[:5], append(back, h[4]), true)
	wantAlike(t, h, append(back, h[4:]...), true)
	wantAlike(t, h, append(back, h[5:]...), false)

	var up []api.Event
	for i := range 300000 {
		up = append(up, event(api.EBegin, i))
	}
	down := slices.Clone(up)
	slices.Reverse(down)
	wantAlike(t, up, down, true)
	down[150000].Kind = api.EBegun
	wantAlike(t, up, down, false)
}

// R1: what was asked ahead changes no answer, and a change of events behind a call is seen.
func TestAlikeAgain(t *testing.T) {
	a := parse(t, "begin 1;begin 2;begun 1")
	b := parse(t, "begin 2;begin 1;begun 1")
	for range 3 {
		wantAlike(t, a, b, true)
		b[0].Tx = 3
		wantAlike(t, a, b, false)
		b[0].Tx = 2
	}
}

// P8.1, P8.3: of all two short rows what the words define; with themselves, the other way round, as many, and through third ones.
func TestAlikeAllRows(t *testing.T) {
	all := upTo([]api.Event{event(api.EBegin, 5), event(api.EBegun, 5), event(api.EBegin, 2), event(api.EBegun, 8)}, 4)
	var alike [][]int
	for _, a := range all {
		var with []int
		for k, b := range all {
			is := prefix.Alike(a, b)
			if is != isDefinedAlike(a, b) {
				t.Fatalf("Alike(%v, %v) = %v", a, b, is)
			}
			if is && len(a) != len(b) {
				t.Fatalf("Alike(%v, %v), of other lengths", a, b)
			}
			if is {
				with = append(with, k)
			}
		}
		alike = append(alike, with)
	}
	for i, with := range alike {
		if !slices.Contains(with, i) {
			t.Fatalf("%v is not alike with itself", all[i])
		}
		for _, k := range with {
			if !slices.Equal(alike[k], with) {
				t.Fatalf("%v and %v are alike, but not with the same ones", all[i], all[k])
			}
		}
	}
}

// P8.3: all transactions' events together are all events.
func TestTogether(t *testing.T) {
	for _, h := range [][]api.Event{nil, mixed(t), wrong()} {
		var all []api.Event
		for _, name := range names(h) {
			all = append(all, prefix.Of(h, name)...)
		}
		wantAlike(t, h, all, true)
		if len(all) != len(h) {
			t.Errorf("%v together are %v", h, all)
		}
	}
}

// P8.3: what is alike with what is well formed is so.
func TestAlikeWellFormed(t *testing.T) {
	var events []api.Event
	for _, kind := range []int{api.EBegin, api.EBegun, api.EAborted} {
		events = append(events, event(kind, 6), event(kind, 1))
	}
	seen := 0
	all := rows(events, 4)
	for _, a := range all {
		if _, err := proper.Check(a); err != api.OK {
			continue
		}
		for _, b := range all {
			if !prefix.Alike(a, b) {
				continue
			}
			seen++
			if _, err := proper.Check(b); err != api.OK {
				t.Fatalf("%v and %v are alike: %d", a, b, err)
			}
		}
	}
	if seen < 50 {
		t.Error("rows of events:", seen)
	}
}

// P8.2: no events, and those of one transaction, in each state.
func TestSerialOne(t *testing.T) {
	wantSerial(t, nil, true, api.OK)
	wantSerial(t, []api.Event{}, true, api.OK)
	for _, s := range []string{
		"begin 3",
		"begin 3;aborted 3",
		"begin 3;begun 3;read 3 1",
		"begin 3;begun 3;write 3 1 5;wrote 3;commit 3",
		"begin 3;begun 3;read 3 1;got 3 5;commit 3;committed 3",
	} {
		wantSerial(t, parse(t, s), true, api.OK)
	}
}

// P8.2: transactions are one after the other though they are not ended, as long as nothing of theirs comes behind another one's.
func TestSerial(t *testing.T) {
	for _, c := range []struct {
		s  string
		is bool
	}{
		{"begin 1;begin 2;begun 1", false},
		{"begin 1;begun 1;begin 2", true},
		{"begin 1;begin 2;begin 3;begin 4;begin 5;begin 0", true},
		{"begin 1;aborted 1;begin 2;aborted 2;begin 3;aborted 3", true},
		{"begin 1;begin 2;aborted 2;begin 3;aborted 1", false},
		{"begin 1;begin 2;begin 3;aborted 1", false},
		{"begin 1;begin 2;begin 3;aborted 2", false},
		{"begin 1;begin 2;begin 3;aborted 3", true},
		{"begin 9;begun 9;commit 9;begin 4;begun 4;write 4 1 5;begin 6;aborted 6", true},
		{"begin 9;begun 9;commit 9;begin 4;begun 4;write 4 1 5;committed 9;aborted 4", false},
		{"begin 9;begun 9;commit 9;committed 9;begin 4;begun 4;begin 6;cancel 4", false},
		{"begin 1;aborted 1;begin 2;aborted 2;begin 3;begin 4;aborted 4;aborted 3", false},
		{"begin 1;aborted 1;begin 2;aborted 2;begin 3;begin 4;begin 5;begin 6;aborted 5", false},
		{"begin 1;aborted 1;begin 2;aborted 2;begin 3;begin 4;begin 5;begin 6;aborted 6", true},
	} {
		wantSerial(t, parse(t, c.s), c.is, api.OK)
	}
}

// P8.2: as many events as there may be, one after the other, and with the first two of another one among them.
func TestSerialMost(t *testing.T) {
	s := "begin 3;begun 3;" + strings.Repeat("write 3 1 5;wrote 3;", 14)
	last := s + "begin 2;begun 2;" + strings.Repeat("read 2 1;got 2 5;", 14)
	wantSerial(t, parse(t, last), true, api.OK)
	wantSerial(t, parse(t, last[:len(last)-len("read 2 1;got 2 5;")]+"commit 3;committed 3"), false, api.OK)
	wantSerial(t, parse(t, "begin 2;"+s+"begun 2"), false, api.OK)
	wantSerial(t, append(parse(t, last), event(api.ECommit, 2)), false, api.ErrArg)
}

// P8.2: table.Table's errors, ErrArg ahead of ErrForm, and ahead of what is one after the other.
func TestSerialErrors(t *testing.T) {
	var seven []api.Event
	for tx := range api.MaxTx + 1 {
		seven = append(seven, event(api.EBegin, tx))
	}
	wantSerial(t, seven[:api.MaxTx], true, api.OK)
	for _, c := range []struct {
		h   []api.Event
		err api.Errno
	}{
		{seven, api.ErrArg},
		{wrong(), api.ErrArg},
		{make([]api.Event, api.MaxEvents), api.ErrForm},
		{make([]api.Event, api.MaxEvents+1), api.ErrArg},
		{[]api.Event{event(api.EBegun, 0)}, api.ErrForm},
		{[]api.Event{event(api.EBegin, 1), event(api.EAborted, 1), event(api.EBegin, 1)}, api.ErrForm},
		{[]api.Event{event(api.EBegin, 1), event(api.EAborted, 2)}, api.ErrForm},
		{[]api.Event{event(api.EBegin, 1), event(api.EBegin, 2), event(api.EBegin, 1)}, api.ErrForm},
		{[]api.Event{event(api.EBegin, -1)}, api.ErrArg},
		{[]api.Event{event(api.EBegin, api.MaxName+1)}, api.ErrArg},
		{[]api.Event{event(api.EBegun, 1), event(api.EKinds, 1)}, api.ErrArg},
		{[]api.Event{{Kind: api.EBegin, Var: 1}}, api.ErrArg},
	} {
		wantSerial(t, c.h, false, c.err)
	}
}

// P8.2: all rows of three transactions' events, of all kinds, up to a length: what the words define.
func TestSerialAllRows(t *testing.T) {
	serial, not := 0, 0
	wellFormed(t, []int{8, 3, 5}, 6, func(h []api.Event) {
		is := isDefinedSerial(h)
		if is {
			serial++
		} else {
			not++
		}
		wantSerial(t, h, is, api.OK)
	})
	if serial < 500 || not < 500 {
		t.Error("rows of events:", serial, not)
	}
}

// P8.2, P8.3: a row whose transactions' events are put one behind the other is alike, well formed and serial.
func TestSerialAlike(t *testing.T) {
	wellFormed(t, []int{8, 3}, 6, func(h []api.Event) {
		var apart []api.Event
		for _, name := range names(h) {
			apart = append(apart, prefix.Of(h, name)...)
		}
		wantAlike(t, h, apart, true)
		wantSerial(t, apart, true, api.OK)
	})
}
