package varint_test

import (
	"bytes"
	"math"
	"slices"
	"testing"

	"recant/api"
	"recant/varint"
)

// nine are the first nine bytes of 2^63 and of what is above it, at their greatest.
var nine = bytes.Repeat([]byte{255}, 9)

// others are bytes that may stand ahead of a number, or behind it: numbers, parts of numbers, and such as are none.
var others = [][]byte{nil, {0}, {1}, {128}, {255}, {0, 0}, {128, 0}, {172, 2}, {255, 255, 255}, bytes.Repeat([]byte{128}, 9), bytes.Repeat([]byte{255}, 20)}

// join are bytes behind each other, in memory of their own.
func join(parts ...[]byte) []byte {
	return slices.Concat(parts...)
}

// divided are a number's bytes, told by division in place of shifts.
func divided(n uint64) []byte {
	if n < 128 {
		return []byte{byte(n)}
	}
	return join([]byte{byte(n%128 + 128)}, divided(n/128))
}

// numbers are those at which a byte more begins, at which a bit is set, and all small ones.
func numbers() []uint64 {
	all := []uint64{1<<64 - 1, 1<<64 - 2, 1<<63 - 1, 1<<63 + 1, 300, 1234567890123456789, 0xaaaaaaaaaaaaaaaa, 0x5555555555555555}
	for n := range uint64(20000) {
		all = append(all, n)
	}
	for bit := range 64 {
		p := uint64(1) << bit
		all = append(all, p-1, p, p+1, -p, -p-1, -p+1)
	}
	return all
}

func wantPut(t *testing.T, n uint64, want ...byte) {
	t.Helper()
	if b := varint.Put(n); !bytes.Equal(b, want) {
		t.Errorf("Put(%d) = %v; want %v", n, b, want)
	}
}

// wantGetAt holds Get to an answer, and to leaving the bytes as they were; also when there is room behind the bytes, that is none of theirs.
func wantGetAt(t *testing.T, b []byte, i int, n uint64, at int, err api.Errno) {
	t.Helper()
	roomy := join(b, []byte{1, 1, 1})[:len(b)]
	for _, in := range [][]byte{b, roomy} {
		was := slices.Clone(in)
		gotN, gotAt, gotErr := varint.Get(in, i)
		if gotN != n || gotAt != at || gotErr != err {
			t.Errorf("Get(%v, %d) = %d, %d, %d; want %d, %d, %d", in, i, gotN, gotAt, gotErr, n, at, err)
		}
		if !bytes.Equal(in, was) {
			t.Errorf("Get(%v, %d) left %v", was, i, in)
		}
	}
}

// wantGet holds Get of bytes to an answer, wherever they stand, and, if they are enough, whatever is behind them.
func wantGet(t *testing.T, b []byte, n uint64, at int, err api.Errno) {
	t.Helper()
	for _, ahead := range others {
		wantGetAt(t, join(ahead, b), len(ahead), n, len(ahead)+at, err)
		if err == api.ErrEnd {
			continue
		}
		for _, behind := range others {
			wantGetAt(t, join(ahead, b, behind), len(ahead), n, len(ahead)+at, err)
		}
	}
}

// P3.1: numbers' bytes, written out.
func TestPut(t *testing.T) {
	wantPut(t, 0, 0)
	wantPut(t, 1, 1)
	wantPut(t, 2, 2)
	wantPut(t, 64, 64)
	wantPut(t, 127, 127)
	wantPut(t, 128, 128, 1)
	wantPut(t, 129, 129, 1)
	wantPut(t, 255, 255, 1)
	wantPut(t, 256, 128, 2)
	wantPut(t, 300, 172, 2)
	wantPut(t, 9999, 143, 78)
	wantPut(t, 1<<32-1, 255, 255, 255, 255, 15)
	wantPut(t, 1<<32, 128, 128, 128, 128, 16)
	wantPut(t, 1<<63-1, 255, 255, 255, 255, 255, 255, 255, 255, 127)
	wantPut(t, 1<<63, 128, 128, 128, 128, 128, 128, 128, 128, 128, 1)
	wantPut(t, 1<<63+1, 129, 128, 128, 128, 128, 128, 128, 128, 128, 1)
	wantPut(t, 1<<64-2, 254, 255, 255, 255, 255, 255, 255, 255, 255, 1)
	wantPut(t, 1<<64-1, 255, 255, 255, 255, 255, 255, 255, 255, 255, 1)
}

// P3.1: each power of 128, and one below and above it.
func TestPutPowers(t *testing.T) {
	for k := 1; k <= 9; k++ {
		power := uint64(1) << (7 * k)
		zeros := bytes.Repeat([]byte{128}, k-1)
		wantPut(t, power-1, join(bytes.Repeat([]byte{255}, k-1), []byte{127})...)
		wantPut(t, power, join([]byte{128}, zeros, []byte{1})...)
		wantPut(t, power+1, join([]byte{129}, zeros, []byte{1})...)
	}
}

// P3.1: each bit, and what is beside it.
func TestPutDivided(t *testing.T) {
	for _, n := range numbers() {
		wantPut(t, n, divided(n)...)
	}
}

// P3.1: a signed number as one that is not, and back.
func TestZigZag(t *testing.T) {
	for n, want := range map[int]uint64{
		0: 0, -1: 1, 1: 2, -2: 3, 2: 4, -3: 5, 3: 6, -64: 127, 64: 128, -65: 129, 300: 600, -300: 599,
		api.MaxVal: 4294967294, api.MinVal: 4294967295, api.MaxVal + 1: 4294967296, api.MinVal - 1: 4294967297,
		1<<62 - 1: 1<<63 - 2, -1 << 62: 1<<63 - 1, 1 << 62: 1 << 63, -1<<62 - 1: 1<<63 + 1,
		math.MaxInt - 1: 1<<64 - 4, math.MinInt + 1: 1<<64 - 3, math.MaxInt: 1<<64 - 2, math.MinInt: 1<<64 - 1,
	} {
		if got := varint.Zig(n); got != want {
			t.Errorf("Zig(%d) = %d; want %d", n, got, want)
		}
		if got := varint.Zag(want); got != n {
			t.Errorf("Zag(%d) = %d; want %d", want, got, n)
		}
	}
}

// P3.3: Zig and Zag are the other way round of each other.
func TestZigZagBack(t *testing.T) {
	for _, n := range numbers() {
		if got := varint.Zig(varint.Zag(n)); got != n {
			t.Errorf("Zig of Zag of %d = %d", n, got)
		}
		signed := int(n)
		if got := varint.Zag(varint.Zig(signed)); got != signed {
			t.Errorf("Zag of Zig of %d = %d", signed, got)
		}
	}
}

// P3.2: numbers are got, with the place behind them.
func TestGet(t *testing.T) {
	for _, c := range []struct {
		b []byte
		n uint64
	}{
		{[]byte{0}, 0}, {[]byte{1}, 1}, {[]byte{127}, 127}, {[]byte{128, 1}, 128}, {[]byte{255, 1}, 255}, {[]byte{172, 2}, 300},
		{[]byte{128, 128, 1}, 16384}, {[]byte{255, 255, 127}, 1<<21 - 1},
		{[]byte{255, 255, 255, 255, 255, 255, 255, 255, 127}, 1<<63 - 1},
		{[]byte{128, 128, 128, 128, 128, 128, 128, 128, 128, 1}, 1 << 63},
		{join(nine, []byte{1}), 1<<64 - 1},
	} {
		wantGet(t, c.b, c.n, len(c.b), api.OK)
	}
}

// P3.2: places that are none; R3: nil is as an empty list.
func TestGetArg(t *testing.T) {
	for _, b := range [][]byte{nil, {}, {0}, {1, 2, 3}, {128}, {128, 0}, nine, join(nine, []byte{2})} {
		for _, i := range []int{-1, -2, -9, -256, math.MinInt32, math.MinInt + 1, math.MinInt, len(b) + 1, len(b) + 2, len(b) + 3, 1 << 32, math.MaxInt - 1, math.MaxInt} {
			wantGetAt(t, b, i, 0, 0, api.ErrArg)
		}
	}
}

// P3.2: the end, at once or in the middle of a number.
func TestGetEnd(t *testing.T) {
	for _, b := range [][]byte{nil, {}, {0}, {1, 2, 3}, {128}, {128, 0}, nine, join(nine, []byte{2})} {
		wantGetAt(t, b, len(b), 0, len(b), api.ErrEnd)
	}
	for count := range 10 {
		for _, c := range []byte{128, 129, 172, 254, 255} {
			wantGet(t, bytes.Repeat([]byte{c}, count), 0, count, api.ErrEnd)
		}
	}
	for _, n := range numbers() {
		b := varint.Put(n)
		for cut := range len(b) {
			wantGetAt(t, b[:cut], 0, 0, cut, api.ErrEnd)
		}
	}
}

// P3.2: a 10th byte, of each value, behind nine of several values.
func TestGetTenth(t *testing.T) {
	for _, c := range []byte{128, 129, 170, 255} {
		ahead := bytes.Repeat([]byte{c}, 9)
		below := uint64(0)
		for range 9 {
			below = below*128 + uint64(c-128)
		}
		wantGet(t, join(ahead, []byte{0}), 0, 9, api.ErrSyntax)
		wantGet(t, join(ahead, []byte{1}), 1<<63+below, 10, api.OK)
		for tenth := 2; tenth < 256; tenth++ {
			wantGet(t, join(ahead, []byte{byte(tenth)}), 0, 9, api.ErrOver)
		}
	}
}

// P3.2: a 9th byte may be any that ends a number, and a great byte ahead of the 10th is none that is too great.
func TestGetNinth(t *testing.T) {
	for ninth := 1; ninth < 128; ninth++ {
		wantGet(t, join(nine[:8], []byte{byte(ninth)}), uint64(ninth)<<56+1<<56-1, 9, api.OK)
	}
}

// P3.2: a byte of 0 that is not the first one, at each place.
func TestGetZero(t *testing.T) {
	for place := 1; place <= 9; place++ {
		for _, c := range []byte{128, 129, 255} {
			wantGet(t, join(bytes.Repeat([]byte{c}, place), []byte{0}), 0, place, api.ErrSyntax)
		}
	}
	// The first one is the number 0, and what is behind it is not looked at.
	wantGet(t, []byte{0, 0}, 0, 1, api.OK)
	wantGet(t, []byte{0, 128}, 0, 1, api.OK)
	wantGet(t, join([]byte{0}, nine, []byte{2}), 0, 1, api.OK)
}

// P3.2: of several errors the first byte's is told.
func TestGetFirst(t *testing.T) {
	wantGet(t, []byte{128, 0, 128, 0}, 0, 1, api.ErrSyntax)
	wantGet(t, join([]byte{128, 0}, nine, []byte{2}), 0, 1, api.ErrSyntax)
	wantGet(t, join(nine[:8], []byte{0, 2}), 0, 8, api.ErrSyntax)
	wantGet(t, join(nine, []byte{128, 0}), 0, 9, api.ErrOver)
	wantGet(t, join(nine, []byte{2, 0}), 0, 9, api.ErrOver)
	wantGet(t, join(nine, []byte{0, 2}), 0, 9, api.ErrSyntax)
	wantGet(t, join(nine, []byte{129}), 0, 9, api.ErrOver)
	wantGet(t, bytes.Repeat([]byte{255}, 11), 0, 9, api.ErrOver)
	wantGet(t, bytes.Repeat([]byte{128}, 100000), 0, 9, api.ErrOver)
	wantGetAt(t, []byte{128, 0, 128}, 2, 0, 3, api.ErrEnd)
}

// P3.2: what is ahead of the place is not looked at: each place of a row of bytes has its own answer.
func TestGetMiddle(t *testing.T) {
	b := []byte{172, 2, 128, 0, 255, 255, 3, 129}
	for i, want := range []struct {
		n   uint64
		at  int
		err api.Errno
	}{
		{300, 2, api.OK}, {2, 2, api.OK}, {0, 3, api.ErrSyntax}, {0, 4, api.OK}, {65535, 7, api.OK}, {511, 7, api.OK}, {3, 7, api.OK}, {0, 8, api.ErrEnd}, {0, 8, api.ErrEnd},
	} {
		wantGetAt(t, b, i, want.n, want.at, want.err)
	}
	long := bytes.Repeat([]byte{255}, 15)
	for i := range 6 {
		wantGetAt(t, long, i, 0, i+9, api.ErrOver)
	}
	for i := 6; i <= 15; i++ {
		wantGetAt(t, long, i, 0, 15, api.ErrEnd)
	}
}

// P3.3: what is put is got, wherever it stands.
func TestPutIsGot(t *testing.T) {
	for _, n := range numbers() {
		b := varint.Put(n)
		wantGetAt(t, b, 0, n, len(b), api.OK)
		wantGetAt(t, join([]byte{128, 0}, b, []byte{255}), 2, n, 2+len(b), api.OK)
	}
	for _, n := range []uint64{0, 1, 127, 128, 300, 1<<63 - 1, 1 << 63, 1<<64 - 1} {
		b := varint.Put(n)
		wantGet(t, b, n, len(b), api.OK)
	}
}

// P3.3: numbers that are put behind each other are got so.
func TestManyArePut(t *testing.T) {
	var b []byte
	for _, n := range numbers() {
		b = append(b, varint.Put(n)...)
	}
	at := 0
	for _, want := range numbers() {
		n, next, err := varint.Get(b, at)
		if n != want || err != api.OK {
			t.Fatalf("Get at %d = %d, %d, %d; want %d", at, n, next, err, want)
		}
		at = next
	}
	if at != len(b) {
		t.Errorf("the last one ends at %d of %d", at, len(b))
	}
}

// rows are all rows of n of these bytes.
func rows(of []byte, n int) [][]byte {
	all := [][]byte{nil}
	for range n {
		var next [][]byte
		for _, row := range all {
			for _, c := range of {
				next = append(next, join(row, []byte{c}))
			}
		}
		all = next
	}
	return all
}

// wantTrue holds Get at each place of a row to what must be so of all of its answers.
func wantTrue(t *testing.T, b []byte) {
	t.Helper()
	for i := range len(b) + 1 {
		n, at, err := varint.Get(b, i)
		ok := false
		switch err {
		case api.OK:
			ok = at > i && at <= len(b) && bytes.Equal(varint.Put(n), b[i:at])
		case api.ErrEnd:
			ok = at == len(b) && (at == i || b[at-1] >= 128)
		case api.ErrSyntax:
			ok = at > i && at < len(b) && b[at] == 0 && b[at-1] >= 128
		case api.ErrOver:
			ok = at == i+9 && at < len(b) && b[at] > 1
		}
		if !ok || err != api.OK && n != 0 {
			t.Fatalf("Get(%v, %d) = %d, %d, %d", b, i, n, at, err)
		}
	}
}

// P3.3: what is got, put, is those bytes; and what is not got is none's.
func TestGotIsPut(t *testing.T) {
	few := []byte{0, 1, 2, 127, 128, 129, 255}
	for n := range 6 {
		for _, row := range rows(few, n) {
			wantTrue(t, row)
		}
	}
	for _, row := range rows(few, 4) {
		wantTrue(t, join(nine[:7], row))
		wantTrue(t, join(nine[:8], row))
	}
	every := make([]byte, 256)
	for c := range every {
		every[c] = byte(c)
	}
	for _, row := range rows(every, 2) {
		wantTrue(t, row)
		wantTrue(t, join(nine[:8], row))
	}
}

// R1: a call's answer is its own: what a caller writes into it changes no other answer.
func TestPutIsNew(t *testing.T) {
	for _, n := range []uint64{0, 5, 300, 1<<64 - 1} {
		want := divided(n)
		b := varint.Put(n)
		clear(b)
		_ = append(b[:0], 9, 9)
		wantPut(t, n, want...)
	}
}
