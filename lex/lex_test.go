package lex

import (
	"math/big"
	"math/rand"
	"regexp"
	"slices"
	"strings"
	"testing"

	"bloomery/api"
)

// The expressions divide a text by another way than All does: each kind's whole token at the beginning, or nothing.
var (
	gap    = regexp.MustCompile(`^(?:[ \t\n\r]|#[^\n]*)+`)
	word   = regexp.MustCompile(`^[a-zA-Z_][a-zA-Z_0-9]*`)
	digits = regexp.MustCompile(`^[0-9]+`)
	quoted = regexp.MustCompile(`^"(?:[^"\\\x00-\x1f\x7f]|\\["\\n])*"`)
	sign   = regexp.MustCompile(`^(?:==|!=|[=+()\[\]{},:;])`)
	plain  = strings.NewReplacer(`\\`, `\`, `\"`, `"`, `\n`, "\n")
)

// answer is all that All returns.
type answer struct {
	tokens []api.Token
	why    api.Errno
	place  api.Place
}

// asked is what All answers.
func asked(text string) answer {
	l, why, place := All(text)
	return answer{l, why, place}
}

// same tells whether two answers are equal.
func (a answer) same(b answer) bool {
	return slices.Equal(a.tokens, b.tokens) && a.why == b.why && a.place == b.place
}

// placeOf is the place of a text's byte, counted from the beginning.
func placeOf(text string, at int) api.Place {
	return api.Place{Line: 1 + strings.Count(text[:at], "\n"), Column: at - strings.LastIndexByte(text[:at], '\n')}
}

// expected is what the document asks All for.
func expected(text string) answer {
	if len(text) > 65536 {
		return answer{nil, api.ErrLimit, api.Place{Line: 1, Column: 1}}
	}
	var out []api.Token
	for at := 0; ; {
		at += len(gap.FindString(text[at:]))
		if at == len(text) {
			return answer{out, api.OK, api.Place{}}
		}
		raw, t, why := front(text[at:])
		if why != api.OK {
			return answer{nil, why, placeOf(text, at)}
		}
		t.Place = placeOf(text, at)
		out = append(out, t)
		at += len(raw)
	}
}

// front is the token that a text begins with, and its bytes.
func front(text string) (string, api.Token, api.Errno) {
	if raw := word.FindString(text); raw != "" {
		return raw, api.Token{Kind: 1, Text: raw}, api.OK
	}
	if raw := digits.FindString(text); raw != "" {
		n, _ := new(big.Int).SetString(raw, 10)
		if len(raw) > 1 && raw[0] == '0' {
			return "", api.Token{}, api.ErrForm
		}
		if !n.IsInt64() {
			return "", api.Token{}, api.ErrRange
		}
		return raw, api.Token{Kind: 2, Text: raw}, api.OK
	}
	if raw := quoted.FindString(text); raw != "" {
		return raw, api.Token{Kind: 3, Text: plain.Replace(raw[1 : len(raw)-1])}, api.OK
	}
	if raw := sign.FindString(text); raw != "" {
		return raw, api.Token{Kind: 4, Text: raw}, api.OK
	}
	return "", api.Token{}, api.ErrForm
}

// source is how a token is written.
func source(t api.Token) string {
	if t.Kind == Text {
		return Quote(t.Text)
	}
	return t.Text
}

// short is tokens as a text: of each its kind's letter and what it denotes.
func short(l []api.Token) string {
	var out []string
	for _, t := range l {
		out = append(out, "?WNTS"[t.Kind:t.Kind+1]+t.Text)
	}
	return strings.Join(out, " ")
}

// check compares All with the document's way.
func check(t *testing.T, text string) {
	t.Helper()
	if got, want := asked(text), expected(text); !got.same(want) {
		t.Fatalf("%.200q: %v, not %v", text, got, want)
	}
}

// each calls f with all strings of at most n of the letters.
func each(letters []string, n int, f func(string)) {
	f("")
	if n == 0 {
		return
	}
	for _, l := range letters {
		each(letters, n-1, func(s string) { f(l + s) })
	}
}

// P9.1: the tokens of each kind, what they denote, and which follow without a gap.
func TestTokens(t *testing.T) {
	for _, c := range []struct{ text, want string }{
		{"", ""}, {" ", ""}, {"\t", ""}, {"\n", ""}, {"\r", ""}, {" \t\r\n \n\n\r\r\t", ""},
		{"#", ""}, {"# so", ""}, {"#\n", ""}, {"##\n#", ""}, {"# \x00\x01\x7f\x80\xff\"\\?!007\r\t é", ""}, {" # a\n # b\n\t#", ""},
		{"a", "Wa"}, {"_", "W_"}, {"Z", "WZ"}, {"z", "Wz"}, {"A", "WA"}, {"a_1", "Wa_1"}, {"__0", "W__0"}, {"aZ9_", "WaZ9_"}, {"x007", "Wx007"},
		{"for in", "Wfor Win"}, {"a\tb\rc\nd e", "Wa Wb Wc Wd We"}, {"a#b\nc", "Wa Wc"}, {"a#b", "Wa"}, {"a #\n#\nb", "Wa Wb"},
		{"0", "N0"}, {"1", "N1"}, {"9", "N9"}, {"10", "N10"}, {"0 0", "N0 N0"}, {"9223372036854775807", "N9223372036854775807"}, {"1000000000000000000", "N1000000000000000000"},
		{"999999999999999999", "N999999999999999999"}, {"1#1\n1", "N1 N1"}, {"12ab", "N12 Wab"}, {"0x1", "N0 Wx1"}, {"0_", "N0 W_"}, {"1e9", "N1 We9"}, {"0a0", "N0 Wa0"},
		{`""`, "T"}, {`"a"`, "Ta"}, {`"é"`, "Té"}, {"\"\x80\xff\"", "T\x80\xff"}, {`" ~!"`, "T ~!"}, {`"#"`, "T#"}, {`"# a" # b`, "T# a"}, {`"007"`, "T007"}, {`"""a"`, "T Ta"},
		{`"\""`, "T\""}, {`"\\"`, "T\\"}, {`"\n"`, "T\n"}, {`"\\n"`, `T\n`}, {`"\\\n"`, "T\\\n"}, {`"\\\\"`, `T\\`}, {`"\"\""`, `T""`}, {`"a\nb\\c\"d"`, "Ta\nb\\c\"d"}, {`"\nn"`, "T\nn"},
		{`"\\""\""`, `T\ T"`}, {`a"b"c`, "Wa Tb Wc"}, {`1"b"2`, "N1 Tb N2"}, {`="b"=`, "S= Tb S="}, {`"a""b"`, "Ta Tb"},
		{"=", "S="}, {"==", "S=="}, {"===", "S== S="}, {"====", "S== S=="}, {"=====", "S== S== S="}, {"= =", "S= S="}, {"= ==", "S= S=="}, {"=#\n=", "S= S="}, {"=\n=", "S= S="},
		{"!=", "S!="}, {"!==", "S!= S="}, {"!===", "S!= S=="}, {"=!=", "S= S!="}, {"==!=", "S== S!="}, {"!=!=", "S!= S!="}, {"!====", "S!= S== S="},
		{"+()[]{},:;", "S+ S( S) S[ S] S{ S} S, S: S;"}, {"++", "S+ S+"}, {"::", "S: S:"}, {"((", "S( S("}, {"+=", "S+ S="}, {":=", "S: S="}, {"=+", "S= S+"}, {"=)", "S= S)"},
		{"a=1;", "Wa S= N1 S;"}, {"a==b!=c", "Wa S== Wb S!= Wc"}, {"f(x,[1,2])", "Wf S( Wx S, S[ N1 S, N2 S] S)"}, {"a+1", "Wa S+ N1"},
		{"a = \"x\\n\"; # so", "Wa S= Tx\n S;"},
	} {
		l, why, place := All(c.text)
		if short(l) != c.want || why != api.OK || place != (api.Place{}) {
			t.Errorf("%q: %q, %v, %v, not %q", c.text, short(l), why, place, c.want)
		}
		check(t, c.text)
	}
}

// P9.1: the places of tokens: bytes are counted, tabs and carriage returns as one, behind the last line feed.
func TestPlaces(t *testing.T) {
	for _, c := range []struct {
		text   string
		places [][2]int
	}{
		{"a", [][2]int{{1, 1}}},
		{" a", [][2]int{{1, 2}}},
		{"\ta", [][2]int{{1, 2}}},
		{"\ra", [][2]int{{1, 2}}},
		{"\na", [][2]int{{2, 1}}},
		{"\r\na", [][2]int{{2, 1}}},
		{"\n\ra", [][2]int{{2, 2}}},
		{"\n\n\n  a\n\n\t\tb", [][2]int{{4, 3}, {6, 3}}},
		{"a\n  b\r\n\"x\" c", [][2]int{{1, 1}, {2, 3}, {3, 1}, {3, 5}}},
		{"12ab==c", [][2]int{{1, 1}, {1, 3}, {1, 5}, {1, 7}}},
		{`"é\n\"" a`, [][2]int{{1, 1}, {1, 10}}},
		{"\"\xff\x80\"a", [][2]int{{1, 1}, {1, 5}}},
		{"# a\nb # c\n# d\n #\n e", [][2]int{{2, 1}, {5, 2}}},
		{"#\r\na#\r\n\r\nb", [][2]int{{2, 1}, {4, 1}}},
		{"a#é\n#\xff\n\rb", [][2]int{{1, 1}, {3, 2}}},
		{strings.Repeat("\n", 65535) + "a", [][2]int{{65536, 1}}},
		{strings.Repeat("\r", 65535) + "a", [][2]int{{1, 65536}}},
		{strings.Repeat(" \n", 100) + "(\n)", [][2]int{{101, 1}, {102, 1}}},
	} {
		var got [][2]int
		l, why, place := All(c.text)
		for _, token := range l {
			got = append(got, [2]int{token.Place.Line, token.Place.Column})
		}
		if !slices.Equal(got, c.places) || why != api.OK || place != (api.Place{}) {
			t.Errorf("%.20q: %v, %v, %v, not %v", c.text, got, why, place, c.places)
		}
	}
}

// P9.1: the errors, each at its place, the first one from the left.
func TestErrors(t *testing.T) {
	for _, c := range []struct {
		text         string
		why          api.Errno
		line, column int
	}{
		// Bytes that begin nothing.
		{"?", api.ErrForm, 1, 1}, {"a ?", api.ErrForm, 1, 3}, {"a-b", api.ErrForm, 1, 2}, {"-1", api.ErrForm, 1, 1}, {"é", api.ErrForm, 1, 1}, {"aé", api.ErrForm, 1, 2}, {"1\xff", api.ErrForm, 1, 2},
		{"\x00", api.ErrForm, 1, 1}, {"\v", api.ErrForm, 1, 1}, {"\f", api.ErrForm, 1, 1}, {"\x7f", api.ErrForm, 1, 1}, {"a\n\t\x00", api.ErrForm, 2, 2}, {"\\", api.ErrForm, 1, 1}, {"'a'", api.ErrForm, 1, 1},
		{"a.b", api.ErrForm, 1, 2}, {"a<b", api.ErrForm, 1, 2}, {"a\u00a0b", api.ErrForm, 1, 2}, {"\ufeffa", api.ErrForm, 1, 1}, {"a // b", api.ErrForm, 1, 3}, {"# a\n?", api.ErrForm, 2, 1},
		{"!", api.ErrForm, 1, 1}, {"a\n !", api.ErrForm, 2, 2}, {"! =", api.ErrForm, 1, 1}, {"!\n=", api.ErrForm, 1, 1}, {"!!=", api.ErrForm, 1, 1}, {"!=!", api.ErrForm, 1, 3}, {"=!", api.ErrForm, 1, 2}, {"!a", api.ErrForm, 1, 1}, {"!#\n=", api.ErrForm, 1, 1}, {"a!", api.ErrForm, 1, 2},
		// Numbers.
		{"00", api.ErrForm, 1, 1}, {"007", api.ErrForm, 1, 1}, {"x 007", api.ErrForm, 1, 3}, {"01a", api.ErrForm, 1, 1}, {"0 00", api.ErrForm, 1, 3}, {"a+09", api.ErrForm, 1, 3},
		{"9223372036854775808", api.ErrRange, 1, 1}, {"9223372036854775810", api.ErrRange, 1, 1}, {"9300000000000000000", api.ErrRange, 1, 1}, {"18446744073709551616", api.ErrRange, 1, 1}, {"10000000000000000000", api.ErrRange, 1, 1}, {strings.Repeat("9", 100), api.ErrRange, 1, 1}, {"\n\n 9223372036854775808;", api.ErrRange, 3, 2}, {"1 9223372036854775808x", api.ErrRange, 1, 3},
		{"09223372036854775808", api.ErrForm, 1, 1}, {"0999999999999999999999", api.ErrForm, 1, 1}, {"0" + strings.Repeat("9", 65535), api.ErrForm, 1, 1}, {strings.Repeat("9", 65536), api.ErrRange, 1, 1},
		// Texts.
		{`"`, api.ErrForm, 1, 1}, {`"ab`, api.ErrForm, 1, 1}, {`a "b`, api.ErrForm, 1, 3}, {`"""`, api.ErrForm, 1, 3}, {`"\`, api.ErrForm, 1, 1}, {`"a\`, api.ErrForm, 1, 1}, {`"\"`, api.ErrForm, 1, 1}, {`"\\\"`, api.ErrForm, 1, 1},
		{"\"a\nb\"", api.ErrForm, 1, 1}, {"\"\n", api.ErrForm, 1, 1}, {"\"\\\n\"", api.ErrForm, 1, 1}, {"\n  \"a\n\"", api.ErrForm, 2, 3}, {"\"\t\"", api.ErrForm, 1, 1}, {"\"\r\"", api.ErrForm, 1, 1}, {"\"\x00\"", api.ErrForm, 1, 1}, {"\"\x1f\"", api.ErrForm, 1, 1}, {"\"abc\x7f\"", api.ErrForm, 1, 1}, {"\"\\\x7f\"", api.ErrForm, 1, 1},
		{`"\t"`, api.ErrForm, 1, 1}, {`"\N"`, api.ErrForm, 1, 1}, {`"\'"`, api.ErrForm, 1, 1}, {`"\0"`, api.ErrForm, 1, 1}, {"\"\\\xff\"", api.ErrForm, 1, 1}, {`a = "ok\n" + "no\r";`, api.ErrForm, 1, 14}, {`"\ "`, api.ErrForm, 1, 1}, {`"a#`, api.ErrForm, 1, 1},
		// The first one of several.
		{`? "`, api.ErrForm, 1, 1}, {"00 ?", api.ErrForm, 1, 1}, {"9223372036854775808 007", api.ErrRange, 1, 1}, {"007 9223372036854775808", api.ErrForm, 1, 1}, {"\"a ? 9223372036854775808", api.ErrForm, 1, 1}, {"9223372036854775808 \"", api.ErrRange, 1, 1}, {"9223372036854775808?", api.ErrRange, 1, 1}, {"a\n9223372036854775808\n?", api.ErrRange, 2, 1}, {"# ?\n\"\\x 99999999999999999999\"", api.ErrForm, 2, 1}, {"\"ok\" ! 99999999999999999999", api.ErrForm, 1, 6},
	} {
		l, why, place := All(c.text)
		if len(l) != 0 || why != c.why || place != (api.Place{Line: c.line, Column: c.column}) {
			t.Errorf("%.40q: %d tokens, %v, %v, not %v at %d, %d", c.text, len(l), why, place, c.why, c.line, c.column)
		}
		check(t, c.text)
	}
}

// P9.1: a text of 65536 bytes is divided, one of more is not, whatever is in it.
func TestLimit(t *testing.T) {
	for _, c := range []struct {
		text  string
		count int
	}{
		{strings.Repeat(" ", 65536), 0}, {strings.Repeat("\n", 65536), 0}, {strings.Repeat("#", 65536), 0}, {strings.Repeat("a", 65536), 1}, {strings.Repeat(";", 65536), 65536},
		{strings.Repeat("=", 65536), 32768}, {strings.Repeat("a ", 32768), 32768}, {`"` + strings.Repeat("é", 32767) + `"`, 1}, {`"` + strings.Repeat(`\"`, 32767) + `"`, 1}, {strings.Repeat(`"`, 65536), 32768},
	} {
		l, why, place := All(c.text)
		if len(l) != c.count || why != api.OK || place != (api.Place{}) {
			t.Errorf("%.20q: %d tokens, %v, %v", c.text, len(l), why, place)
		}
	}
	limit := answer{nil, api.ErrLimit, api.Place{Line: 1, Column: 1}}
	for _, text := range []string{
		strings.Repeat(" ", 65537), strings.Repeat("a", 65537), strings.Repeat("9", 65537), strings.Repeat("?", 65537), strings.Repeat("0", 65537), strings.Repeat("\n", 65537), strings.Repeat(`"`, 65537),
		"?" + strings.Repeat(" ", 65536), strings.Repeat("\n", 65536) + "?", "# " + strings.Repeat("a", 65535), strings.Repeat("\xff", 1_000_000), strings.Repeat("a;", 1_000_000),
	} {
		if got := asked(text); !got.same(limit) {
			t.Errorf("%.20q: %v, %v", text, got.why, got.place)
		}
	}
	for _, c := range []struct {
		text  string
		why   api.Errno
		place api.Place
	}{
		{strings.Repeat(" ", 65535) + "?", api.ErrForm, api.Place{Line: 1, Column: 65536}}, {strings.Repeat("\n", 65535) + "!", api.ErrForm, api.Place{Line: 65536, Column: 1}}, {`"` + strings.Repeat("a", 65535), api.ErrForm, api.Place{Line: 1, Column: 1}},
	} {
		if got := asked(c.text); !got.same(answer{nil, c.why, c.place}) {
			t.Errorf("%.20q: %v, %v", c.text, got.why, got.place)
		}
	}
}

// P9.1: each byte alone, behind and ahead of each other one, in a Text, behind a backslash, and in a comment.
func TestBytes(t *testing.T) {
	for a := range 256 {
		for b := range 256 {
			check(t, string([]byte{byte(a), byte(b)}))
			check(t, string([]byte{'x', '\n', byte(a), byte(b), '='}))
		}
		s := string([]byte{byte(a)})
		for _, ahead := range []string{"", "a", "_", "9", "0", "=", "==", "!", "!=", "+", "\"\"", "\"", "\"\\", "\"x\\\\", "\"\\n", "#", " #x", "#\n", "#\x00\xff", "\r", "\t"} {
			for _, behind := range []string{"", "a", "9", "=", "\"", "x\"", "\\\"", "\\\"\"", "\nb", "\n\"", "#", "?"} {
				check(t, ahead+s+behind)
			}
		}
	}
}

// P9.1, P9.3: all short texts of bytes of each sort are divided as the document says.
func TestShortTexts(t *testing.T) {
	sorts := []string{" ", "\n", "\r", "#", "a", "n", "0", "7", "\"", "\\", "=", "!", "(", "?", "\x00", "\xff"}
	each(sorts, 4, func(s string) { check(t, s) })
	each([]string{"\"", "\\", "n", "x", "\n"}, 6, func(s string) { check(t, s) })
	each([]string{"=", "!", "a", " "}, 7, func(s string) { check(t, s) })
	each([]string{"#", "\n", "a", "\"", "\r"}, 6, func(s string) { check(t, s) })
	each([]string{"0", "1", "a", " "}, 6, func(s string) { check(t, s) })
}

// P9.1: which numbers there are is decided around the largest one, digit by digit.
func TestNumbers(t *testing.T) {
	limit := "9223372036854775807"
	for i := range limit {
		for d := '0'; d <= '9'; d++ {
			check(t, limit[:i]+string(d)+limit[i+1:])
			check(t, limit[:i]+string(d)+limit[i:])
			check(t, limit[:i]+string(d)+strings.Repeat("0", len(limit)-i-1))
			check(t, limit[:i]+string(d)+strings.Repeat("9", len(limit)-i-1))
		}
		check(t, limit[i:])
		check(t, limit[:i])
		check(t, "0"+limit[i:])
		check(t, limit+limit[i:])
	}
	for n := range 3000 {
		check(t, big.NewInt(int64(n)).String())
	}
}

// pick is one of the items.
func pick(r *rand.Rand, items ...string) string {
	return items[r.Intn(len(items))]
}

// someText is a string of bytes that a Text may denote.
func someText(r *rand.Rand) string {
	var out []byte
	for range r.Intn(12) {
		b := byte(r.Intn(256))
		for b < 32 && b != '\n' || b == 127 {
			b = byte(r.Intn(256))
		}
		out = append(out, b)
		out = append(out, pick(r, "", "", "", "\\", "\"", "\n", "n", "\\n")...)
	}
	return string(out)
}

// someToken is a token without a place.
func someToken(r *rand.Rand) api.Token {
	switch kind := 1 + r.Intn(4); kind {
	case Word:
		return api.Token{Kind: kind, Text: pick(r, "a", "_", "x1", "Zz_0", "for", "n", strings.Repeat("w", 1+r.Intn(80)))}
	case Number:
		return api.Token{Kind: kind, Text: pick(r, "0", "7", "10", "9223372036854775807", big.NewInt(r.Int63()).String())}
	case Text:
		return api.Token{Kind: kind, Text: someText(r)}
	}
	return api.Token{Kind: Sign, Text: pick(r, "=", "==", "!=", "+", "(", ")", "[", "]", "{", "}", ",", ":", ";")}
}

// someGap is a gap; it ends in a line feed if a comment is in it.
func someGap(r *rand.Rand) string {
	out := ""
	for range 1 + r.Intn(4) {
		out += pick(r, " ", "\t", "\n", "\r", "\r\n", "   ", "#\n", "# \"a\n", "#\x00\xff\x7f?!\\\n", "##\r\n")
	}
	return out
}

// mayTouch tells whether two tokens stay two without a gap between them.
func mayTouch(a, b api.Token) bool {
	wordy := b.Kind == Word || b.Kind == Number
	switch {
	case a.Kind == Word:
		return !wordy
	case a.Kind == Number:
		return b.Kind != Number
	case a.Kind == Sign && a.Text == "=":
		return b.Text != "=" && b.Text != "==" || b.Kind != Sign
	}
	return true
}

// someProgram is a text and the tokens it was made of, with their places.
func someProgram(r *rand.Rand) (string, []api.Token) {
	text, tokens := "", []api.Token{}
	if r.Intn(2) == 0 {
		text = someGap(r)
	}
	for range r.Intn(60) {
		next := someToken(r)
		if n := len(tokens); n > 0 && (!mayTouch(tokens[n-1], next) || r.Intn(2) == 0) {
			text += someGap(r)
		}
		next.Place = placeOf(text, len(text))
		tokens = append(tokens, next)
		text += source(next)
	}
	return text + pick(r, "", " ", "\n", "#", "# so", "# \xff\"", "\r\n"), tokens
}

// P9.1, P9.3: a text made of tokens and gaps is divided into just these, and one with a wrong byte somewhere as the document says.
func TestPrograms(t *testing.T) {
	r := rand.New(rand.NewSource(9))
	for range 1500 {
		text, tokens := someProgram(r)
		if got := asked(text); !got.same(answer{tokens, api.OK, api.Place{}}) {
			t.Fatalf("%q: %v, not %v", text, got, tokens)
		}
		check(t, text)
		for range 5 {
			at := r.Intn(len(text) + 1)
			check(t, text[:at]+pick(r, "?", "\"", "\\", "!", "=", "#", "\n", "0", "\x00", "\x7f", "é", string([]byte{byte(r.Intn(256))}))+text[at:])
			check(t, text[:at])
			check(t, text[at:])
		}
	}
}

// offset is where the byte with a place is in a text.
func offset(text string, p api.Place) int {
	at := 0
	for range p.Line - 1 {
		at += strings.IndexByte(text[at:], '\n') + 1
	}
	return at + p.Column - 1
}

// P9.3: between the tokens, ahead of the first one and behind the last one are gaps, and nothing else.
func TestOnlyGapsBetween(t *testing.T) {
	r := rand.New(rand.NewSource(93))
	for range 500 {
		text, _ := someProgram(r)
		l, why, _ := All(text)
		if why != api.OK {
			t.Fatalf("%q: %v", text, why)
		}
		end := 0
		for _, token := range append(l, api.Token{Place: placeOf(text, len(text))}) {
			at := offset(text, token.Place)
			if at < end || gap.FindString(text[end:at]) != text[end:at] {
				t.Fatalf("%q: %q is no gap, ahead of %v", text, text[end:max(end, at)], token)
			}
			if !strings.HasPrefix(text[at:], source(token)) && token.Kind != 0 {
				t.Fatalf("%q: %v is not at its place", text, token)
			}
			end = at + len(source(token))
		}
	}
}

// P9.3: what follows the line feed of a comment is divided as without the comment.
func TestCommentsLeaveNothing(t *testing.T) {
	r := rand.New(rand.NewSource(94))
	fronts := []string{"", "a", "12", "x = ", "\"t\" ", "==", "(\n", "# one\n", "=", " \t"}
	comments := []string{"#", "##", "# \"", "#\\", "# a # b", "#\r", "#\x00\x01\x7f\x80\xff", "# ? ! 007 99999999999999999999", "#é", "#" + strings.Repeat("x", 5000)}
	for _, ahead := range fronts {
		for _, comment := range comments {
			for range 10 {
				rest, _ := someProgram(r)
				rest = pick(r, rest, rest, "?", "\"", "= =", "!", "00", "")
				with, without := asked(ahead+comment+"\n"+rest), asked(ahead+"\n"+rest)
				if !with.same(without) {
					t.Fatalf("%q with %.20q: %v, not %v", ahead, comment, with, without)
				}
				if last := asked(ahead + comment); !last.same(asked(ahead)) {
					t.Fatalf("%q with %.20q at the end: %v", ahead, comment, last)
				}
			}
		}
	}
}

// expectedQuote is what the document asks Quote for.
func expectedQuote(s string) string {
	for i := range len(s) {
		if s[i] < 32 && s[i] != 10 || s[i] == 127 {
			return ""
		}
	}
	s = strings.ReplaceAll(s, `\`, `\\`)
	s = strings.ReplaceAll(s, `"`, `\"`)
	return `"` + strings.ReplaceAll(s, "\n", `\n`) + `"`
}

// checkQuote compares Quote with the document's way, and reads what it returns as a token.
func checkQuote(t *testing.T, s string) {
	t.Helper()
	q := Quote(s)
	if want := expectedQuote(s); q != want {
		t.Fatalf("%.100q: %.100q, not %.100q", s, q, want)
	}
	if q == "" || len(q) > 65536 {
		return
	}
	// P9.3: it is one token, which denotes s.
	want := answer{[]api.Token{{Kind: 3, Text: s, Place: api.Place{Line: 1, Column: 1}}}, api.OK, api.Place{}}
	if got := asked(q); !got.same(want) {
		t.Fatalf("%.100q: %.100q is %v", s, q, got)
	}
}

// P9.2: the source form of a Text, or nothing.
func TestQuote(t *testing.T) {
	for _, c := range []struct{ s, want string }{
		{"", `""`}, {"a", `"a"`}, {`a"b`, `"a\"b"`}, {`\`, `"\\"`}, {`"`, `"\""`}, {"\n", `"\n"`}, {"n", `"n"`}, {`\n`, `"\\n"`}, {"\\\n", `"\\\n"`}, {"a\"\\\n", `"a\"\\\n"`},
		{"é", `"é"`}, {"\x80\xff", "\"\x80\xff\""}, {" ", `" "`}, {"~", `"~"`}, {"#", `"#"`}, {"'", `"'"`}, {"\u2028", "\"\u2028\""}, {"\xc2", "\"\xc2\""},
		{"\t", ""}, {"\r", ""}, {"\x00", ""}, {"\x1f", ""}, {"\x7f", ""}, {"a\x00", ""}, {"\x00a", ""}, {"a\nb\r\n", ""}, {"\"\\\x7f", ""}, {"\v", ""}, {"\b", ""},
		{strings.Repeat("a", 70_000), `"` + strings.Repeat("a", 70_000) + `"`}, {strings.Repeat("\n", 70_000), `"` + strings.Repeat(`\n`, 70_000) + `"`}, {strings.Repeat("a", 70_000) + "\t", ""},
	} {
		if got := Quote(c.s); got != c.want {
			t.Errorf("%.40q: %.40q, not %.40q", c.s, got, c.want)
		}
		checkQuote(t, c.s)
	}
}

// P9.2, P9.3: Quote of each byte, alone and between others, of all short strings, and of long ones up to what fits into a text.
func TestQuoteAnything(t *testing.T) {
	for a := range 256 {
		s := string([]byte{byte(a)})
		for _, around := range []string{"", "a", "\\", "\"", "\n", "n", "\xff", "\x7f"} {
			checkQuote(t, s+around)
			checkQuote(t, around+s)
			checkQuote(t, around+s+around)
		}
	}
	each([]string{"\"", "\\", "n", "\n", "a", "\x7f", "\x00", "é"}, 5, func(s string) { checkQuote(t, s) })
	r := rand.New(rand.NewSource(92))
	for range 3000 {
		checkQuote(t, someText(r)+pick(r, "", "", "", "\x00", "\x7f", "\r")+someText(r))
	}
	for _, n := range []int{65533, 65534, 65535, 65536} {
		checkQuote(t, strings.Repeat("x", n))
		checkQuote(t, strings.Repeat("\"", n/2))
	}
}

// P9.3: a Text is written in one way only, so Quote of what it denotes is how it was written.
func TestQuoteOfTexts(t *testing.T) {
	each([]string{"\\", "\"", "n", "a", " ", "\n"}, 6, func(s string) {
		text := "\"" + s
		if quoted.FindString(text) != text {
			return
		}
		l, why, _ := All(text)
		if why != api.OK || len(l) != 1 || Quote(l[0].Text) != text {
			t.Fatalf("%q: %v, %v", text, l, why)
		}
	})
}

// R3, R5: the same text has the same tokens, whatever was written into those of an earlier call.
func TestApart(t *testing.T) {
	text := "a = \"x\\n\" + 12; # so"
	first, want := asked(text), expected(text)
	for i := range first.tokens {
		first.tokens[i] = api.Token{Kind: 7, Text: "?"}
	}
	_ = append(first.tokens[:1], api.Token{Kind: 8})
	if second := asked(text); !second.same(want) {
		t.Errorf("%v, not %v", second, want)
	}
}

// The chapter's examples.
func TestExamples(t *testing.T) {
	want := []api.Token{{Kind: Word, Text: "a", Place: api.Place{Line: 1, Column: 1}}, {Kind: Sign, Text: "=", Place: api.Place{Line: 1, Column: 3}}, {Kind: Text, Text: "x\n", Place: api.Place{Line: 1, Column: 5}}, {Kind: Sign, Text: ";", Place: api.Place{Line: 1, Column: 10}}}
	if got := asked("a = \"x\\n\"; # so"); !got.same(answer{want, api.OK, api.Place{}}) {
		t.Error(got)
	}
	if got := asked("a ?"); !got.same(answer{nil, api.ErrForm, api.Place{Line: 1, Column: 3}}) {
		t.Error(got)
	}
	if got := asked("007"); !got.same(answer{nil, api.ErrForm, api.Place{Line: 1, Column: 1}}) {
		t.Error(got)
	}
	if got := Quote(`a"b`); got != `"a\"b"` {
		t.Error(got)
	}
	if Word != 1 || Number != 2 || Text != 3 || Sign != 4 {
		t.Error("the kinds are others")
	}
}

// R1: anything is divided or refused as the document says, and quoted or not.
func FuzzLex(f *testing.F) {
	for _, s := range []string{"", "a = \"x\\n\"; # so", "12ab==!=!", "\"\\", "007", "9223372036854775808", "#\xff\n\"é\""} {
		f.Add(s)
	}
	f.Fuzz(func(t *testing.T, s string) {
		check(t, s)
		checkQuote(t, s)
	})
}
