package word

import (
	"math"
	"slices"
	"strconv"
	"strings"
	"testing"

	"recant/api"
)

func wantInt(t *testing.T, s string, n int, e api.Errno) {
	t.Helper()
	if gotN, gotE := Int(s); gotN != n || gotE != e {
		t.Errorf("Int(%.60q) = %d, %d; want %d, %d", s, gotN, gotE, n, e)
	}
}

// P1.1: numbers' texts are read.
func TestIntReadsNumbers(t *testing.T) {
	for s, n := range map[string]int{
		"0": 0, "1": 1, "9": 9, "10": 10, "100": 100, "1234567890": 1234567890,
		"-1": -1, "-9": -9, "-10": -10, "-5060": -5060,
		"2147483646": 2147483646, "-2147483647": -2147483647,
	} {
		wantInt(t, s, n, api.OK)
	}
}

// P1.1: texts that are no number's.
func TestIntSyntax(t *testing.T) {
	for _, s := range []string{
		"", "-", "--", "--1", "-0", "-00", "-01", "00", "01", "007", "+", "+1", "+0",
		"1-", "1-2", " 1", "1 ", "\t1", "1\n", "1.0", "1e3", "1_000", "0x1", "#", "a", "1a",
		"/", ":", "1/", "1:", "\x00", "1\x00", "\xff", "\xb1", "\u0661", "\uff11", "\u22121",
	} {
		wantInt(t, s, 0, api.ErrSyntax)
	}
}

// P1.1: each byte that is no digit is none in any place.
func TestIntEachByte(t *testing.T) {
	for b := range 256 {
		c := string([]byte{byte(b)})
		digit := b >= '0' && b <= '9'
		for _, s := range []string{c, "1" + c, "1" + c + "1", "-1" + c} {
			n, e := Int(s)
			if digit {
				want, _ := strconv.Atoi(s)
				wantInt(t, s, want, api.OK)
			} else if e != api.ErrSyntax || n != 0 {
				t.Errorf("Int(%q) = %d, %d", s, n, e)
			}
		}
	}
}

// P1.1: the limits, and one beyond each.
func TestIntLimits(t *testing.T) {
	wantInt(t, "2147483647", 2147483647, api.OK)
	wantInt(t, "-2147483648", -2147483648, api.OK)
	wantInt(t, "2147483648", 0, api.ErrOver)
	wantInt(t, "-2147483649", 0, api.ErrOver)
}

// P1.1: numbers far beyond the limits, those among them that 32 or 64 bits would wrap round into small ones.
func TestIntFarOver(t *testing.T) {
	for _, s := range []string{
		"2147483649", "2147483650", "21474836470", "21474836480", "4294967295", "4294967296", "4294967297",
		"9223372036854775807", "9223372036854775808", "18446744073709551615", "18446744073709551616",
		"18446744073709551617", "340282366920938463463374607431768211456",
		"1" + strings.Repeat("0", 64), "9" + strings.Repeat("9", 5000), "1" + strings.Repeat("0", 100000),
	} {
		wantInt(t, s, 0, api.ErrOver)
		wantInt(t, "-"+s, 0, api.ErrOver)
	}
}

// P1.1: ErrSyntax goes ahead of ErrOver.
func TestIntSyntaxAheadOfOver(t *testing.T) {
	long := strings.Repeat("9", 5000)
	for _, s := range []string{
		"2147483648x", "-2147483649x", "02147483648", "-02147483649", "99999999999999999999-", "+2147483648",
		long + "x", "-" + long + " ", "0" + long, "-0" + long, long + "-" + long, strings.Repeat("0", 5000),
	} {
		wantInt(t, s, 0, api.ErrSyntax)
	}
}

// P1.1: a number's text, at the ends and one beyond each.
func TestText(t *testing.T) {
	for n, want := range map[int]string{
		0: "0", 7: "7", -7: "-7", 10: "10", -10: "-10", 9999: "9999",
		api.MaxVal: "2147483647", api.MinVal: "-2147483648",
		api.MaxVal - 1: "2147483646", api.MinVal + 1: "-2147483647",
	} {
		if s, e := Text(n); s != want || e != api.OK {
			t.Errorf("Text(%d) = %q, %d", n, s, e)
		}
	}
	for _, n := range []int{api.MaxVal + 1, api.MinVal - 1, 1 << 32, -1 << 32, 1<<32 + 1, math.MaxInt, math.MinInt} {
		if s, e := Text(n); s != "" || e != api.ErrArg {
			t.Errorf("Text(%d) = %q, %d", n, s, e)
		}
	}
}

// P1.3: what is written is read.
func TestTextIsRead(t *testing.T) {
	check := func(n int) {
		s, e := Text(n)
		if e != api.OK {
			t.Errorf("Text(%d): %d", n, e)
		}
		wantInt(t, s, n, api.OK)
	}
	for n := -2000; n <= 2000; n++ {
		check(n)
	}
	for bit := range 31 {
		for d := -1; d <= 1; d++ {
			check(1<<bit + d)
			check(-1<<bit + d)
		}
	}
	check(api.MaxVal)
	check(api.MinVal)
}

// texts are all texts of up to n of these bytes.
func texts(bytes string, n int) []string {
	all := []string{""}
	last := all
	for range n {
		var next []string
		for _, s := range last {
			for i := range len(bytes) {
				next = append(next, s+bytes[i:i+1])
			}
		}
		all = append(all, next...)
		last = next
	}
	return all
}

// P1.3: what is read is written as it was.
func TestIntIsWritten(t *testing.T) {
	read := 0
	for _, s := range texts("-+0159 #a", 5) {
		n, e := Int(s)
		if e != api.OK {
			continue
		}
		read++
		if back, e := Text(n); back != s || e != api.OK {
			t.Errorf("Int(%q) = %d, and Text of that %q, %d", s, n, back, e)
		}
	}
	// 0, and of 1 to 5 digits those with 3 first ones and 4 others, and of 1 to 4 digits so behind a '-'.
	if want := 1 + 3*(1+4+16+64+256) + 3*(1+4+16+64); read != want {
		t.Errorf("%d texts are numbers, want %d", read, want)
	}
}

// P1.2: words, and where they begin.
func TestWords(t *testing.T) {
	for _, c := range []struct {
		line   string
		words  []string
		begins []int
	}{
		{"", nil, nil},
		{" ", nil, nil},
		{"\t", nil, nil},
		{" \t \t\t  ", nil, nil},
		{"a", []string{"a"}, []int{0}},
		{"begin 1", []string{"begin", "1"}, []int{0, 6}},
		{"write\t3 1\t-5", []string{"write", "3", "1", "-5"}, []int{0, 6, 8, 10}},
		{"  a", []string{"a"}, []int{2}},
		{"a  ", []string{"a"}, []int{0}},
		{"\ta \t b\t", []string{"a", "b"}, []int{1, 5}},
		{"a a a", []string{"a", "a", "a"}, []int{0, 2, 4}},
		{"#", nil, nil},
		{"##", nil, nil},
		{"# a", nil, nil},
		{"#a b", nil, nil},
		{" \t# a", nil, nil},
		{"a#", []string{"a"}, []int{0}},
		{"a#b c", []string{"a"}, []int{0}},
		{"a #b", []string{"a"}, []int{0}},
		{"a b# c # d", []string{"a", "b"}, []int{0, 2}},
		{"a b c#", []string{"a", "b", "c"}, []int{0, 2, 4}},
	} {
		words, begins := Words(c.line)
		if !slices.Equal(words, c.words) || !slices.Equal(begins, c.begins) {
			t.Errorf("Words(%q) = %q, %v; want %q, %v", c.line, words, begins, c.words, c.begins)
		}
	}
}

// P1.2: a byte that is none of 9, 32 and '#' is a word's, a byte 10, 0 or 255 too.
func TestWordsEachByte(t *testing.T) {
	for b := range 256 {
		s := "a" + string([]byte{byte(b)}) + "z"
		want, at := []string{s}, []int{0}
		switch b {
		case 9, 32:
			want, at = []string{"a", "z"}, []int{0, 2}
		case '#':
			want, at = []string{"a"}, []int{0}
		}
		if words, begins := Words(s); !slices.Equal(words, want) || !slices.Equal(begins, at) {
			t.Errorf("Words(%q) = %q, %v; want %q, %v", s, words, begins, want, at)
		}
	}
}

// P1.2, P1.3: words stand where they are told, rise, have no byte that parts them, and nothing but such bytes is between them.
func TestWordsStand(t *testing.T) {
	for _, s := range texts("a1 \t#\n", 6) {
		words, begins := Words(s)
		if len(words) != len(begins) {
			t.Fatalf("Words(%q): %d words, %d places", s, len(words), len(begins))
		}
		line, _, _ := strings.Cut(s, "#")
		end := 0
		for i, w := range words {
			at := begins[i]
			if w == "" || strings.ContainsAny(w, "\t #") {
				t.Errorf("Words(%q): word %q", s, w)
			}
			if at < end || i > 0 && at == end || !strings.HasPrefix(line[at:], w) {
				t.Fatalf("Words(%q): %q at %d, behind %d", s, w, at, end)
			}
			if strings.Trim(line[end:at], "\t ") != "" {
				t.Errorf("Words(%q): %q is in no word", s, line[end:at])
			}
			end = at + len(w)
		}
		if strings.Trim(line[end:], "\t ") != "" {
			t.Errorf("Words(%q): %q is in no word", s, line[end:])
		}
	}
}

// P1: a long line ends, too.
func TestWordsLong(t *testing.T) {
	words, begins := Words(strings.Repeat("ab ", 100000))
	if len(words) != 100000 || len(begins) != 100000 || words[99999] != "ab" || begins[99999] != 299997 {
		t.Errorf("%d words, %d places", len(words), len(begins))
	}
}

// R1: a call's answer is its own: what a caller writes into it changes no other answer.
func TestWordsAreNew(t *testing.T) {
	words, begins := Words("a b")
	words[0], begins[0] = "x", 9
	if words, begins := Words("a b"); words[0] != "a" || begins[0] != 0 {
		t.Error(words, begins)
	}
}
