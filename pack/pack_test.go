package pack

import (
	"math"
	"regexp"
	"slices"
	"strconv"
	"strings"
	"testing"

	"bloomery/api"
)

// words are all strings of at most n of the letters.
func words(letters string, n int) []string {
	l := []string{""}
	for from := 0; n > 0; n-- {
		to := len(l)
		for _, w := range l[from:to] {
			for i := range len(letters) {
				l = append(l, w+letters[i:i+1])
			}
		}
		from = to
	}
	return l
}

// rowsOf are all rows of at most n of the strings.
func rowsOf(l []string, n int) [][]string {
	rows := [][]string{nil}
	for from := 0; n > 0; n-- {
		to := len(rows)
		for _, r := range rows[from:to] {
			for _, s := range l {
				rows = append(rows, append(slices.Clone(r), s))
			}
		}
		from = to
	}
	return rows
}

// P1.1: the encoding of ordinary rows, of empty ones, and of arbitrary bytes.
func TestRow(t *testing.T) {
	for _, c := range []struct {
		row  []string
		want string
	}{
		{nil, ""},
		{[]string{}, ""},
		{[]string{""}, "0:"},
		{[]string{"", ""}, "0:0:"},
		{[]string{"ab", ""}, "2:ab0:"},
		{[]string{"0123456789"}, "10:0123456789"},
		{[]string{"1:", ":", "3"}, "2:1:1::1:3"},
		{[]string{"\x00\xff", "é", "\n"}, "2:\x00\xff2:é1:\n"},
		{[]string{strings.Repeat("x", 100)}, "100:" + strings.Repeat("x", 100)},
	} {
		if got := Row(c.row...); got != c.want {
			t.Errorf("Row(%q) = %q, want %q", c.row, got, c.want)
		}
		got, why := Texts(c.want)
		if why != api.OK || !slices.Equal(got, c.row) {
			t.Errorf("Texts(%q) = %q, %d, want %q", c.want, got, why, c.row)
		}
	}
}

// P1.1: the error is the one at the first position at which there can be no encoding.
func TestTextsErrors(t *testing.T) {
	for b, want := range map[string]api.Errno{
		"0":                               api.ErrShort,
		"7":                               api.ErrShort,
		"12":                              api.ErrShort,
		"2:":                              api.ErrShort,
		"2:a":                             api.ErrShort,
		"1:a1":                            api.ErrShort,
		"1:a1:":                           api.ErrShort,
		"2:ab0:3":                         api.ErrShort,
		"999999999":                       api.ErrShort,
		"999999999:":                      api.ErrShort,
		"999999999:\xff":                  api.ErrShort,
		"100000000:1000000":               api.ErrShort,
		":":                               api.ErrForm,
		"a":                               api.ErrForm,
		"-1:":                             api.ErrForm,
		"+1:a":                            api.ErrForm,
		" 1:a":                            api.ErrForm,
		"1 :a":                            api.ErrForm,
		"1;a":                             api.ErrForm,
		"1/":                              api.ErrForm,
		"00":                              api.ErrForm,
		"00:":                             api.ErrForm,
		"01":                              api.ErrForm,
		"02:ab":                           api.ErrForm,
		"0000000000":                      api.ErrForm,
		"1:ab":                            api.ErrForm,
		"1:a:":                            api.ErrForm,
		"0::":                             api.ErrForm,
		"2:ab01:c":                        api.ErrForm,
		"1000000000":                      api.ErrForm,
		"9999999999":                      api.ErrForm,
		"1000000000:":                     api.ErrForm,
		"9223372036854775808:":            api.ErrForm,
		"99999999999999999999999999999:a": api.ErrForm,
		"1:a0999999999:":                  api.ErrForm,
		"1:a9999999990:":                  api.ErrForm,
		"\xd9\xa1:a":                      api.ErrForm,
		"1\x00":                           api.ErrForm,
		"\xff":                            api.ErrForm,
	} {
		if l, why := Texts(b); why != want || len(l) != 0 {
			t.Errorf("Texts(%q) = %q, %d, want %d", b, l, why, want)
		}
	}
}

// P1.1: no byte but a digit begins a length, and none but a digit or a colon continues one.
func TestTextsBytes(t *testing.T) {
	for i := range 256 {
		c := string([]byte{byte(i)})
		digit := '0' <= i && i <= '9'
		first, next := api.ErrForm, api.ErrForm
		if digit {
			first, next = api.ErrShort, api.ErrShort
		}
		if i == ':' {
			next = api.ErrShort
		}
		if _, why := Texts(c); why != first {
			t.Errorf("Texts(%q): %d", c, why)
		}
		if _, why := Texts("5" + c); why != next {
			t.Errorf("Texts(%q): %d", "5"+c, why)
		}
		if l, why := Texts("1:" + c); why != api.OK || !slices.Equal(l, []string{c}) {
			t.Errorf("Texts(%q) = %q, %d", "1:"+c, l, why)
		}
	}
}

// P1.1: a string of as many bytes as a length of many digits tells.
func TestTextsLong(t *testing.T) {
	long := strings.Repeat("0:", 5_000_000)
	b := Row("a", long, "b")
	if !strings.HasPrefix(b, "1:a10000000:0:") || !strings.HasSuffix(b, ":1:b") {
		t.Error("the encoding of a long string")
	}
	if l, why := Texts(b); why != api.OK || !slices.Equal(l, []string{"a", long, "b"}) {
		t.Error("the row with a long string", len(l), why)
	}
	if l, why := Texts(b[:len(b)-4]); why != api.ErrShort || len(l) != 0 {
		t.Error("a long string cut off", len(l), why)
	}
	if l, why := Texts(strings.Repeat("0:", 100_000)); why != api.OK || len(l) != 100_000 {
		t.Error("a long row", len(l), why)
	}
}

// whole and part tell by another way than Texts what the front of an encoding may be.
var whole = regexp.MustCompile(`^(0|[1-9][0-9]{0,8}):`)
var part = regexp.MustCompile(`^(0|[1-9][0-9]{0,8})?$`)

// wanted is what Texts has to return.
func wanted(b string) ([]string, api.Errno) {
	var l []string
	for b != "" {
		m := whole.FindStringSubmatch(b)
		if m == nil && part.MatchString(b) {
			return nil, api.ErrShort
		}
		if m == nil {
			return nil, api.ErrForm
		}
		n, _ := strconv.Atoi(m[1])
		b = b[len(m[0]):]
		if n > len(b) {
			return nil, api.ErrShort
		}
		l = append(l, b[:n])
		b = b[n:]
	}
	return l, api.OK
}

// P1.1: over all short strings of some letters.
func TestTextsAll(t *testing.T) {
	for _, b := range words("012:a", 7) {
		l, why := Texts(b)
		want, wantWhy := wanted(b)
		if why != wantWhy || !slices.Equal(l, want) {
			t.Fatalf("Texts(%q) = %q, %d, want %q, %d", b, l, why, want, wantWhy)
		}
		if why == api.OK && Row(l...) != b {
			t.Fatalf("Row(%q) isn't %q", l, b)
		}
	}
}

// P1.1: ErrShort exactly where more bytes make an encoding.
func TestTextsShort(t *testing.T) {
	encodings, fronts := map[string]bool{}, map[string]bool{}
	for _, r := range rowsOf(words("0:a", 2), 3) {
		b := Row(r...)
		encodings[b] = true
		for i := range len(b) {
			fronts[b[:i]] = true
		}
	}
	for b := range fronts {
		want := api.ErrShort
		if encodings[b] {
			want = api.OK
		}
		if l, why := Texts(b); why != want || why != api.OK && len(l) != 0 {
			t.Fatalf("Texts(%q) = %q, %d, want %d", b, l, why, want)
		}
	}
	for _, b := range words("012:a", 5) {
		if _, why := Texts(b); why == api.ErrForm && fronts[b] {
			t.Fatalf("Texts(%q) is ErrForm, but more bytes make an encoding", b)
		}
	}
}

// P1.2: numbers as strings, and back.
func TestNum(t *testing.T) {
	for n, want := range map[int64]string{
		0:             "0",
		7:             "7",
		-7:            "-7",
		10:            "10",
		-100:          "-100",
		1234567890:    "1234567890",
		1<<31 - 1:     "2147483647",
		-1 << 31:      "-2147483648",
		1 << 32:       "4294967296",
		math.MaxInt64: "9223372036854775807",
		math.MinInt64: "-9223372036854775808",
	} {
		if got := Num(n); got != want {
			t.Errorf("Num(%d) = %q", n, got)
		}
		if got, ok := Int(want); !ok || got != n {
			t.Errorf("Int(%q) = %d, %t", want, got, ok)
		}
	}
}

// P1.2: what is no number's Num.
func TestIntNone(t *testing.T) {
	for _, s := range []string{
		"", "-", "+", "--1", "+0", "+1", "-0", "00", "01", "-01", "-00", " 1", "1 ", "1\n", "\x001", "1\x00", "- 1", "1-",
		"a", "1a", "0x1", "0b1", "0o7", "1_0", "1e3", "1.0", "1,000", "\xd9\xa1", "٣", "\xff",
		"9223372036854775808", "-9223372036854775809", "09223372036854775807", "18446744073709551616", "99999999999999999999",
		"-99999999999999999999", strings.Repeat("9", 100_000), strings.Repeat("0", 100_000),
	} {
		if n, ok := Int(s); ok || n != 0 {
			t.Errorf("Int(%q) = %d, %t", s, n, ok)
		}
	}
}

// P1.2: over all short strings, Int takes just what is a number's Num.
func TestIntAll(t *testing.T) {
	nums := map[string]int64{}
	for n := int64(-100_000); n < 100_000; n++ {
		nums[Num(n)] = n
	}
	for _, s := range words("019-+_ ", 5) {
		want, is := nums[s]
		if n, ok := Int(s); ok != is || n != want {
			t.Fatalf("Int(%q) = %d, %t, want %d, %t", s, n, ok, want, is)
		}
	}
}

// P1.3: different rows have different encodings, and an encoding is that of one row.
func TestRowUnique(t *testing.T) {
	seen := map[string][]string{}
	for _, r := range rowsOf(append(words("0:1", 2), "0:0:", "1:0", "1:01:"), 3) {
		b := Row(r...)
		if other, ok := seen[b]; ok {
			t.Fatalf("%q and %q have the encoding %q", r, other, b)
		}
		seen[b] = r
		if l, why := Texts(b); why != api.OK || !slices.Equal(l, r) {
			t.Fatalf("Texts(Row(%q)) = %q, %d", r, l, why)
		}
	}
}

// P1.3: encodings behind one another are the encoding of the rows behind one another.
func TestRowConcat(t *testing.T) {
	rows := rowsOf([]string{"", "a", "1:a", "0:", "0123456789"}, 2)
	for _, a := range rows {
		for _, b := range rows {
			both := slices.Concat(a, b)
			if Row(a...)+Row(b...) != Row(both...) {
				t.Fatalf("%q and %q", a, b)
			}
			if l, why := Texts(Row(a...) + Row(b...)); why != api.OK || !slices.Equal(l, both) {
				t.Fatalf("%q and %q: %q, %d", a, b, l, why)
			}
		}
	}
}

// R3: an argument is neither modified nor kept, and results share nothing.
func TestNothingShared(t *testing.T) {
	row := []string{"a", "bc"}
	b := Row(row...)
	if !slices.Equal(row, []string{"a", "bc"}) {
		t.Errorf("the argument is %q", row)
	}
	row[0] = "x"
	if b != "1:a2:bc" || Row("a", "bc") != b {
		t.Errorf("the encoding is %q", b)
	}
	first, _ := Texts(b)
	first[0] = "x"
	if second, why := Texts(b); why != api.OK || !slices.Equal(second, []string{"a", "bc"}) {
		t.Errorf("a second row is %q, %d", second, why)
	}
}

// R1: neither arbitrary bytes nor arbitrary fronts of an encoding make Texts or Int panic.
func FuzzTexts(f *testing.F) {
	for _, b := range []string{"", "0:", "2:ab0:", "02:ab", "999999999:", "1000000000:", "-0", "\xff"} {
		f.Add(b)
	}
	f.Fuzz(func(t *testing.T, b string) {
		l, why := Texts(b)
		want, wantWhy := wanted(b)
		if why != wantWhy || !slices.Equal(l, want) {
			t.Errorf("Texts(%q) = %q, %d, want %q, %d", b, l, why, want, wantWhy)
		}
		if n, ok := Int(b); ok && Num(n) != b || !ok && n != 0 {
			t.Errorf("Int(%q) = %d, %t", b, n, ok)
		}
	})
}
