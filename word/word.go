// Package word is layer 1: words and numbers (chapter 01-word.md).
package word

import (
	"strconv"
	"strings"

	"recant/api"
)

// Int is the number that a text is.
func Int(s string) (int, api.Errno) {
	digits, below := strings.CutPrefix(s, "-")
	if !areDigits(digits) || leadsZero(digits, below) {
		return 0, api.ErrSyntax
	}
	n := gather(digits)
	if below {
		n = -n
	}
	if !isNumber(n) {
		return 0, api.ErrOver
	}
	return int(n), api.OK
}

// Text is a number's text.
func Text(n int) (string, api.Errno) {
	if !isNumber(int64(n)) {
		return "", api.ErrArg
	}
	return strconv.Itoa(n), api.OK
}

// Words are a line's words, and where in it each of them begins.
func Words(s string) ([]string, []int) {
	line, _, _ := strings.Cut(s, "#")
	var words []string
	var begins []int
	for i := 0; i < len(line); {
		if isGap(line[i]) {
			i++
			continue
		}
		end := wordEnd(line, i)
		words = append(words, line[i:end])
		begins = append(begins, i)
		i = end
	}
	return words, begins
}

func areDigits(s string) bool {
	for i := range len(s) {
		if s[i] < '0' || s[i] > '9' {
			return false
		}
	}
	return s != ""
}

// leadsZero is true of a first 0 that may not be: the only one that may is the text 0 itself, without a sign.
func leadsZero(digits string, below bool) bool {
	return digits[0] == '0' && (below || len(digits) > 1)
}

func isNumber(n int64) bool {
	return api.MinVal <= n && n <= api.MaxVal
}

// gather is the number that digits tell, or, if that is above 2^31, some number above 2^31.
func gather(digits string) int64 {
	var n int64
	take := func(digit byte) {
		// Beyond both limits n stays, else a long text would wrap it round into a small number.
		if n <= -api.MinVal {
			n = n*10 + int64(digit-'0')
		}
	}
	for i := range len(digits) {
		take(digits[i])
	}
	return n
}

func isGap(b byte) bool {
	return b == 9 || b == 32
}

func wordEnd(line string, i int) int {
	for i < len(line) && !isGap(line[i]) {
		i++
	}
	return i
}
