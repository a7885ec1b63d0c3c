// Package pack is layer 1: rows of strings as bytes, and numbers as strings, each in a unique form.
package pack

import (
	"strconv"
	"strings"

	"bloomery/api"
)

// maxDigits is how many digits a length in an encoding may have.
const maxDigits = 9

// Row is the encoding of a row of strings.
func Row(l ...string) string {
	var b strings.Builder
	for _, s := range l {
		b.WriteString(strconv.Itoa(len(s)))
		b.WriteByte(':')
		b.WriteString(s)
	}
	return b.String()
}

// Texts is the row whose encoding is b.
func Texts(b string) ([]string, api.Errno) {
	var l []string
	for b != "" {
		size, digits, why := length(b)
		if why != api.OK {
			return nil, why
		}
		b = b[digits+1:]
		if len(b) < size {
			return nil, api.ErrShort
		}
		l = append(l, b[:size])
		b = b[size:]
	}
	return l, api.OK
}

// length reads the length that b begins with: its value, and its number of digits ahead of the colon.
func length(b string) (size, digits int, why api.Errno) {
	for i := range len(b) {
		c := b[i]
		if c == ':' && i > 0 {
			return size, i, api.OK
		}
		if !mayFollow(b[:i], c) {
			return 0, 0, api.ErrForm
		}
		size = size*10 + int(c-'0')
	}
	return 0, 0, api.ErrShort
}

// mayFollow tells whether c can be the next digit of a length that has these digits so far.
func mayFollow(digits string, c byte) bool {
	return '0' <= c && c <= '9' && digits != "0" && len(digits) < maxDigits
}

// Num is n in decimal.
func Num(n int64) string {
	return strconv.FormatInt(n, 10)
}

// Int is the number whose Num is s, if there is one.
func Int(s string) (int64, bool) {
	n, err := strconv.ParseInt(s, 10, 64)
	// The library takes more forms than Num has (+1, 01, -0), so the way back decides.
	if err != nil || Num(n) != s {
		return 0, false
	}
	return n, true
}
