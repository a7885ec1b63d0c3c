package globs

import (
	"regexp"
	"slices"
	"strings"
	"testing"
)

// characters are all that a component may have.
const characters = "abcdefghijklmnopqrstuvwxyzABCDEFGHIJKLMNOPQRSTUVWXYZ0123456789_.-+"

// joined are all strings of one to n of the items, with sep between them.
func joined(items []string, sep string, n int) []string {
	all, last := slices.Clone(items), items
	for range n - 1 {
		var longer []string
		for _, s := range last {
			for _, item := range items {
				longer = append(longer, s+sep+item)
			}
		}
		all, last = append(all, longer...), longer
	}
	return all
}

// words are all strings of at most n of the letters.
func words(letters string, n int) []string {
	return append(joined(strings.Split(letters, ""), "", n), "")
}

// many is s so many times, with slashes between.
func many(s string, n int) string {
	return strings.Join(slices.Repeat([]string{s}, n), "/")
}

// noPaths are strings that are neither paths nor patterns.
func noPaths() []string {
	long := strings.Repeat("x", 65)
	return []string{
		"", "/", "//", "/a", "a/", "a//b", "//a", "a//", ".", "..", "./a", "../a", "a/.", "a/..", "a/./b", "a/../b", "/a/b", "a/b/",
		" ", "a b", " a", "a ", "a\n", "\na", "a\x00", "a:b", "a\\b", "a~", "a,b", "a=b", "[a]", "{a}", "a|b", "(a)", "^a", "a$", "!a",
		"é", "a/é", "\xff", "a/\x80/b", "\xc0\xaa", "＊", "？", "ａ", long, "a/" + long, long + "/a", many("a", 17), many("a", 1000),
		many("a", 16) + "/", "/" + many("a", 16), strings.Repeat("/", 100_000), strings.Repeat("a", 100_000), strings.Repeat("a/", 100_000),
	}
}

// noPatterns are strings with wildcards that are not patterns.
func noPatterns() []string {
	return []string{
		"/*", "*/", "*//*", "//*", "/**", "**/", "**//a", "/**/a", "a/**/", "/", "*/.", "*/..", "./*", "../*", "**/.", "**/..", "**/./a", "**/../a",
		"***", "****", "a**", "**a", "a**b", "?**", "**?", "**.go", "a/**b", "a**/b", "***/a", "a/***", "*a**", "**a*", "**a**", "a/b**/c", "**/a**",
		"* ", " *", "?\n", "*\x00", "[*]", "*\\*", "\\*", "*|?", "{*}", "*é", "é?", "*\xff", "?\x80", "a*/ /b", "**/ ", "**/a b",
		strings.Repeat("?", 65), "*" + strings.Repeat("a", 64), strings.Repeat("*a", 32) + "*", strings.Repeat("a", 64) + "?", "**/" + strings.Repeat("*?", 33),
		many("*", 17), many("**", 17), many("?", 17), many("a", 16) + "/**", "**/" + many("a", 16), many("**", 16) + "/", many("a", 8) + "/**/" + many("a", 8),
		strings.Repeat("*", 100_000), strings.Repeat("*a", 100_000), strings.Repeat("**/", 100_000), strings.Repeat("?", 100_000),
	}
}

// goodComponent and goodPart tell by another way than May which characters there may be, and how many.
var (
	goodComponent = regexp.MustCompile(`^[a-zA-Z0-9_.+-]{1,64}$`)
	goodPart      = regexp.MustCompile(`^[a-zA-Z0-9_.+*?-]{1,64}$`)
)

// isPath tells whether s is a path.
func isPath(s string) bool {
	parts := strings.Split(s, "/")
	for _, c := range parts {
		if !goodComponent.MatchString(c) || c == "." || c == ".." {
			return false
		}
	}
	return len(parts) <= 16
}

// isPattern tells by another way than May whether p is a pattern.
func isPattern(p string) bool {
	parts := strings.Split(p, "/")
	for _, c := range parts {
		if c != "**" && (!goodPart.MatchString(c) || strings.Contains(c, "**") || c == "." || c == "..") {
			return false
		}
	}
	return len(parts) <= 16
}

// expression is what matches the same paths as a pattern.
func expression(p string) *regexp.Regexp {
	var b strings.Builder
	parts := strings.Split(p, "/")
	for i, part := range parts {
		last := i == len(parts)-1
		switch {
		case part == "**" && last:
			b.WriteString(`[^/]+(/[^/]+)*`)
		case part == "**":
			b.WriteString(`([^/]+/)*`)
		default:
			one := strings.ReplaceAll(regexp.QuoteMeta(part), `\*`, `[^/]*`)
			b.WriteString(strings.ReplaceAll(one, `\?`, `[^/]`))
		}
		if part != "**" && !last {
			b.WriteByte('/')
		}
	}
	return regexp.MustCompile("^" + b.String() + "$")
}

// checkAll compares Match with expression for all of some strings as patterns and as paths.
func checkAll(t *testing.T, patterns, paths []string) {
	t.Helper()
	right := make([]bool, len(paths))
	for i, s := range paths {
		right[i] = isPath(s)
	}
	for _, p := range patterns {
		may, re := isPattern(p), expression(p)
		for i, s := range paths {
			want := may && right[i] && re.MatchString(s)
			if got := Match(p, s); got != want {
				t.Fatalf("Match(%q, %q) is %t", p, s, got)
			}
		}
	}
}

// matching is what a pattern matches, and what it doesn't.
type matching map[string][2][]string

// check compares Match with it.
func (m matching) check(t *testing.T) {
	t.Helper()
	for p, l := range m {
		if !May(p) {
			t.Errorf("%q is a pattern", p)
		}
		for i, paths := range l {
			for _, s := range paths {
				if got := Match(p, s); got != (i == 0) {
					t.Errorf("Match(%q, %q) is %t", p, s, got)
				}
			}
		}
	}
}

// P4.1: ordinary patterns, and what only looks like one.
func TestMay(t *testing.T) {
	long := strings.Repeat("x", 64)
	for _, p := range []string{
		"a", "Z", "0", "_", "-", "+", "a/b", "a/b/c.go", ".rc", "...", "..a", "a..", long, many(long, 16),
		"*", "?", "**", "*.go", "a*", "*a", "a*b", "a*b*c", "*a*", "?a", "a?", "??", "????", "*?", "?*", "*?*", "*?*?*", "?*?", "a?*b",
		".*", "*.", "..*", ".?", "?.", "..?", "?..", "*..", ".*.", "-*", "+?", "*/*", "?/?", "*/?/a", "a/*/b",
		"**/a", "a/**", "a/**/b", "**/**", "**/*/**", "**/**/**", "a/**/**/b", "**/*.go", "*/**", "**/?",
		strings.Repeat("?", 64), strings.Repeat("*a", 32), strings.Repeat("?*", 32), "*" + strings.Repeat("a", 63),
		many("*", 16), many("?", 16), many("**", 16), many(strings.Repeat("*?", 32), 16), "**/" + many("a", 15), many("a", 15) + "/**",
	} {
		if !May(p) {
			t.Errorf("%q is a pattern", p)
		}
	}
	for _, p := range slices.Concat(noPaths(), noPatterns()) {
		if May(p) {
			t.Errorf("%q is no pattern", p)
		}
	}
}

// P4.1: every byte at the front, in the middle, at the end, alone in a part, and next to each wildcard.
func TestMayBytes(t *testing.T) {
	for i := range 256 {
		c := string([]byte{byte(i)})
		if c == "/" {
			continue
		}
		want := strings.Contains(characters+"*?", c)
		for _, p := range []string{c + "x", "x" + c + "x", "x" + c, "x/" + c + "x", "x/x" + c + "/x", "**/x" + c, "x" + c + "/**", strings.Repeat("x", 63) + c, "?" + c, c + "?"} {
			if may := May(p); may != want {
				t.Errorf("May(%q) is %t", p, may)
			}
		}
		for _, p := range []string{c, "a/" + c, "**/" + c, c + "/**"} {
			if may := May(p); may != (want && c != ".") {
				t.Errorf("May(%q) is %t", p, may)
			}
		}
		for _, p := range []string{"a*" + c, c + "*a", "*?" + c + "a"} {
			if may := May(p); may != (want && (c != "*" || p == "*?*a")) {
				t.Errorf("May(%q) is %t", p, may)
			}
		}
	}
}

// P4.1: how many characters a part may have, wherever it stands, and how many parts a pattern may have.
func TestMayLimits(t *testing.T) {
	for n := range 200 {
		for _, part := range []string{strings.Repeat("x", n), strings.Repeat("?", n), strings.Repeat("*x", n)[:n], strings.Repeat("?*", n)[:n]} {
			for _, p := range []string{part, part + "/a", "a/" + part, "**/" + part, part + "/**", many("*", 15) + "/" + part, part + "/" + many("**", 15)} {
				if may := May(p); may != (1 <= n && n <= 64) {
					t.Errorf("May(%q) with a part of %d characters is %t", p, n, may)
				}
			}
		}
		for _, part := range []string{"a", "*", "?", "**", "...", strings.Repeat("*x", 32)} {
			if may := May(many(part, n)); may != (1 <= n && n <= 16) {
				t.Errorf("May of %d parts %q is %t", n, part, may)
			}
		}
	}
}

// P4.1: a part that isn't one, at any place among others.
func TestMayPlaces(t *testing.T) {
	for _, bad := range []string{"", ".", "..", "a b", "***", "a**", "**a", "a**b", strings.Repeat("?", 65)} {
		for _, good := range []string{"a", "*", "**"} {
			for n := range 16 {
				for m := range 16 - n {
					l := slices.Concat(slices.Repeat([]string{good}, n), []string{bad}, slices.Repeat([]string{good}, m))
					if p := strings.Join(l, "/"); May(p) {
						t.Errorf("%q is no pattern", p)
					}
				}
			}
		}
	}
}

// P4.1: all short strings of some letters.
func TestMayAll(t *testing.T) {
	for _, p := range words("a.*?/ ", 7) {
		if may := May(p); may != isPattern(p) {
			t.Fatalf("May(%q) is %t", p, may)
		}
	}
}

// P4.2: what parts without the part ** match.
func TestMatch(t *testing.T) {
	long := strings.Repeat("x", 64)
	matching{
		"a":        {{"a"}, {"b", "aa", "A", "a/a", "b/a", "a/b"}},
		"a/b":      {{"a/b"}, {"a", "b", "b/a", "a/b/c", "x/a/b", "ab", "a.b", "a/bb", "aa/b"}},
		"a.b":      {{"a.b"}, {"axb", "ab", "a/b"}},
		"a+":       {{"a+"}, {"a", "aa"}},
		"?":        {{"a", "Z", "0", "_", "-", "+"}, {"ab", "a/b", "..."}},
		"??":       {{"ab", ".a", "a."}, {"a", "abc", "a/b"}},
		"a?":       {{"aa", "ab", "a."}, {"a", "ba", "abb", "a/b"}},
		"?a":       {{"aa", "ba", ".a"}, {"a", "ab", "bba", "b/a"}},
		"a?c":      {{"abc", "a.c"}, {"ac", "abbc", "a/c"}},
		".?":       {{".a", ".-"}, {"a", ".ab"}},
		"..?":      {{"...", "..a"}, {".a", "..ab"}},
		"?/?":      {{"a/b"}, {"a", "ab", "a/bb", "aa/b", "a/b/c", "a-b"}},
		"*":        {{"a", "ab", ".x", "...", long}, {"a/b", "a/b/c"}},
		"*/*":      {{"a/b", "aa/.b"}, {"a", "a/b/c"}},
		"a*":       {{"a", "ab", "abc", "aa", "a.go"}, {"b", "ba", "a/b", "A"}},
		"*a":       {{"a", "ba", "aa", "aba", ".a"}, {"b", "ab", "b/a"}},
		"a*c":      {{"ac", "abc", "abbc", "acc", "acac", "aacc"}, {"a", "c", "abcd", "a/c", "xac"}},
		"*a*":      {{"a", "ab", "ba", "bab", "aaa"}, {"b", "bb", "a/b", "b/a"}},
		"a*b*c":    {{"abc", "axbyc", "abbc", "abcbc", "abcc"}, {"ac", "acb", "abcx", "abd", "bc"}},
		"ab*ba":    {{"abba", "abxba", "abbba", "ababa"}, {"aba", "ab", "ba", "abab"}},
		"*ab*ab":   {{"abab", "aabab", "ababab", "abxab", "xabxab"}, {"ab", "aab", "ababx", "aba"}},
		"*aab*":    {{"aab", "aaab", "aaaab", "baabb"}, {"aa", "ab", "abab", "aba"}},
		"*.go":     {{"x.go", ".go", "x.y.go", ".go.go"}, {"a/x.go", "go", "x.go.c", "xgo"}},
		"*.*":      {{"a.b", ".a", "a.", "...", "a.b.c"}, {"a", "a.b/c", "a/b.c"}},
		".*":       {{".a", "...", "..a"}, {"a", "a.b", ".a/b"}},
		"*.":       {{"a.", "...", ".a."}, {"a", "a.b"}},
		"*?":       {{"a", "ab", "abc"}, {"a/b"}},
		"?*":       {{"a", "ab", "abc"}, {"a/b"}},
		"*?*":      {{"a", "ab", "abc"}, {"a/b"}},
		"?*?":      {{"ab", "abc", "abcd"}, {"a", "a/b"}},
		"*??*":     {{"ab", "abc"}, {"a"}},
		"*?*?*?*":  {{"abc", "abcd"}, {"ab", "a"}},
		"a*?":      {{"ab", "abb", "aa"}, {"a", "ba"}},
		"a?*":      {{"ab", "abb", "aa"}, {"a", "ba"}},
		"*?a":      {{"ba", "aa", "bba"}, {"a", "ab"}},
		"a?*?b":    {{"axxb", "axyzb", "abbb"}, {"ab", "axb", "axxa"}},
		"?a*a?":    {{"xaax", "xabax", "aaaaa", "aaaa"}, {"xax", "xaa", "aax"}},
		"a/?b/*.c": {{"a/xb/y.c", "a/bb/.c"}, {"a/b/y.c", "a/xb/y", "a/xb/y/z.c", "xb/y.c"}},
		"a*/*b":    {{"a/b", "ax/xb", "aa/bb"}, {"ab", "a/x/b", "axb", "b/a"}},
		"*/a":      {{"b/a", "a/a"}, {"a", "c/b/a", "ba"}},
		"a/*":      {{"a/b", "a/.b"}, {"a", "a/b/c", "ab"}},
		long[:63]:  {{long[:63]}, {long[:62], long}},
		many("*", 16): {
			{many("a", 16), many(long, 16)}, {many("a", 15), "a"},
		},
	}.check(t)
}

// P4.2: the part ** at the front, in the middle, at the end, alone, and next to another one.
func TestMatchAnyParts(t *testing.T) {
	matching{
		"**":        {{"a", "a/b", "a/b/c", ".a", ".../...", many("a", 16)}, nil},
		"**/c":      {{"c", "a/c", "a/b/c", "c/c", "c/x/c", many("c", 16)}, {"c/a", "ac", "a/cc", "a/bc", "a"}},
		"**/*":      {{"a", "a/b", many("a", 16)}, nil},
		"**/?":      {{"a", "bb/a", "bb/cc/a"}, {"aa", "a/bb"}},
		"**/*.go":   {{"a.go", "x/a.go", "x/y/.go"}, {"a.go/x", "a", "x/a"}},
		"**/a/b":    {{"a/b", "x/a/b", "a/a/b", "a/b/a/b"}, {"b", "a", "a/x/b", "a/b/x", "xa/b"}},
		"a/**":      {{"a/b", "a/b/c", "a/a", "a/" + many("b", 15)}, {"a", "b", "b/a", "ab/c", "ab", "x/a/b"}},
		"*/**":      {{"a/b", "a/b/c"}, {"a"}},
		"a/b/**":    {{"a/b/c", "a/b/c/d"}, {"a/b", "a/c/b", "a", "a/bb/c"}},
		"*.d/**":    {{"x.d/a", ".d/a/b"}, {"x.d", "x/a.d", "x/a.d/b"}},
		"a/**/c":    {{"a/c", "a/b/c", "a/b/b/c", "a/a/c/c", "a/" + many("b", 14) + "/c"}, {"a", "c", "a/cc", "ac", "a/c/b", "b/a/c", "aa/c", "a/b"}},
		"*/**/*":    {{"a/b", "a/b/c", many("a", 16)}, {"a"}},
		"?/**/?":    {{"a/b", "a/bb/c"}, {"a", "aa/b", "a/bb"}},
		"a/**/b/c":  {{"a/b/c", "a/x/b/c", "a/b/b/c", "a/b/c/b/c"}, {"a/c", "a/b", "a/b/x/c", "b/c"}},
		"a/b/**/c":  {{"a/b/c", "a/b/x/c"}, {"a/c", "a/x/b/c", "b/c"}},
		"**/a/**":   {{"a/b", "x/a/b", "x/y/a/b/c", "a/a", "a/a/a"}, {"a", "x/a", "b", "x/b", "aa/b"}},
		"a/**/b/**": {{"a/b/c", "a/x/b/c", "a/b/b", "a/x/b/c/d"}, {"a/b", "a/x/b", "a/c", "b/c"}},
		"**/a/**/b": {{"a/b", "x/a/b", "a/x/b", "x/a/y/b", "a/b/a/b"}, {"a", "b", "b/a", "a/b/a"}},
		"a/**/b/**/c": {
			{"a/b/c", "a/x/b/c", "a/b/x/c", "a/x/y/b/z/c", "a/b/b/c/c", "a/c/b/c"}, {"a/c", "a/b", "a/c/b", "a/x/c"},
		},
		"**/**":        {{"a", "a/b", "a/b/c"}, nil},
		"**/**/**":     {{"a", "a/b"}, nil},
		many("**", 16): {{"a", many("a", 16)}, nil},
		"a/**/**":      {{"a/b", "a/b/c"}, {"a", "b/a"}},
		"**/**/a":      {{"a", "b/a", "b/b/b/a"}, {"a/b"}},
		"a/**/**/b":    {{"a/b", "a/x/b", "a/x/y/z/b"}, {"a", "b", "b/a"}},
		"**/*/**":      {{"a/b", "a/b/c"}, {"a"}},
		"**/*/*":       {{"a/b", "a/b/c"}, {"a"}},
		"*/**/*/**":    {{"a/b/c", "a/b/c/d"}, {"a", "a/b"}},
		"**/" + many("a", 15): {
			{many("a", 15), many("a", 16), "b/" + many("a", 15)}, {many("a", 14), many("a", 14) + "/b", many("a", 14) + "/b/a"},
		},
		many("a", 15) + "/**": {
			{many("a", 16), many("a", 15) + "/b"}, {many("a", 15), many("a", 14) + "/b/a"},
		},
	}.check(t)
}

// P4.2: every character of a path is matched by itself, by ?, and by *, and by no other character.
func TestMatchCharacters(t *testing.T) {
	for _, a := range strings.Split(characters, "") {
		for _, b := range strings.Split(characters, "") {
			if got := Match("x"+a+"/y", "x"+b+"/y"); got != (a == b) {
				t.Errorf("Match of %q and %q is %t", a, b, got)
			}
		}
		for _, p := range []string{"x?", "x*", "*" + a, "?" + a, "x*" + a, "x" + a + "*", "*x?", "**", "**/x" + a} {
			if !Match(p, "x"+a) {
				t.Errorf("Match(%q, %q) is false", p, "x"+a)
			}
		}
	}
}

// P4.2: how many characters a star, and how many components a part **, can get.
func TestMatchNumbers(t *testing.T) {
	for n := range 63 {
		c := strings.Repeat("b", n)
		for p, want := range map[string]bool{"a*a": true, "*": true, "a*": true, "a?*a": n >= 1, "a*?a": n >= 1, "a*b*a": n >= 1, "a*b?b*a": n >= 3, "a" + strings.Repeat("?", n) + "a": true, "a" + strings.Repeat("?", n+1) + "a": false} {
			if got := Match(p, "a"+c+"a"); got != want && May(p) {
				t.Errorf("Match(%q, a%sa) is %t", p, c, got)
			}
		}
	}
	for n := range 15 {
		s := strings.Join(slices.Concat([]string{"a"}, slices.Repeat([]string{"b"}, n), []string{"c"}), "/")
		for p, want := range map[string]bool{"a/**/c": true, "a/**": true, "**/c": true, "**": true, "a/**/b/**/c": n >= 1, "a/**/b/*/**/c": n >= 2, "a/*/c": n == 1, "a/c": n == 0, many("*", n+2): true, many("*", n+1): false} {
			if got := Match(p, s); got != want {
				t.Errorf("Match(%q, %q) is %t", p, s, got)
			}
		}
	}
}

// P4.2: all short strings of some letters.
func TestMatchAll(t *testing.T) {
	checkAll(t, words("ab*?/", 5), words("ab/", 5))
	checkAll(t, words(".*?a", 4), words(".a/", 5))
}

// P4.2: parts whose wildcards are close together, and what they might match.
func TestMatchAllInParts(t *testing.T) {
	checkAll(t, words("ab*?", 5), words("ab", 7))
}

// P4.2: all ways to put some parts together.
func TestMatchAllParts(t *testing.T) {
	checkAll(t, joined([]string{"**", "*", "a", "b", "?b"}, "/", 4), joined([]string{"a", "b", "bb"}, "/", 5))
	checkAll(t, joined([]string{"**", "a", "*b"}, "/", 6), joined([]string{"a", "ab"}, "/", 6))
}

// P4.2: what isn't a pattern matches nothing, and what isn't a path is matched by nothing.
func TestMatchWrong(t *testing.T) {
	for _, p := range slices.Concat(noPaths(), noPatterns()) {
		for _, s := range []string{"a", "b", "a/b", "ab", ".rc", "x.go", many("a", 16), strings.Repeat("a", 64), p} {
			if Match(p, s) {
				t.Errorf("%q matches %q", p, s)
			}
		}
	}
	for _, s := range append(noPaths(), "*", "?", "a*", "a?", "**", "a/**", "*/a", "a/?") {
		for _, p := range []string{"a", "*", "?", "*?", "**", "**/*", "a/**", "**/a", "*/*", "?*/**", many("*", 16), "**/.*", s} {
			if Match(p, s) {
				t.Errorf("%q matches %q", p, s)
			}
		}
	}
}

// P4.2: patterns that could be tried in very many ways.
func TestMatchMany(t *testing.T) {
	a := strings.Repeat("a", 63)
	stars := strings.Repeat("*a", 32)
	matching{
		stars:                                   {{strings.Repeat("a", 32), a}, {strings.Repeat("a", 31), a + "b"}},
		stars[1:] + "*":                         {{strings.Repeat("a", 32), a + "b"}, {"b" + a, strings.Repeat("a", 31)}},
		strings.Repeat("*?", 32):                {{strings.Repeat("a", 32), a + "b"}, {strings.Repeat("a", 31)}},
		many("**/a", 8):                         {{many("a", 8), many("a", 16)}, {many("a", 7), many("a", 15) + "/b"}},
		many("**/*", 8):                         {{many("a", 8), many("a", 16)}, {many("a", 7)}},
		many("**", 15) + "/b":                   {{"b", many("a", 15) + "/b"}, {"a", many("a", 16)}},
		many("**/"+stars, 8):                    {{many(a, 8), many(a, 16)}, {many(a, 7), many(a+"b", 16), many(a, 15) + "/b"}},
		many("**/"+strings.Repeat("*a", 31), 8): {{many(a, 16)}, {many(a+"b", 16), many("b"+strings.Repeat("a", 30), 16)}},
	}.check(t)
}

// P4.3: what is picked, in which order.
func TestPick(t *testing.T) {
	files := []string{"x/c.go", "b.go", "a.go", "x.go", "x/y/d.go", "a.c", "B.go", "a-b/e", "a/e", "a.b/e", "a0/e", ".rc"}
	for i, c := range []struct{ some, none, want []string }{
		{nil, nil, nil},
		{nil, []string{"**"}, nil},
		{[]string{"**"}, []string{"**"}, nil},
		{[]string{"*.go"}, nil, []string{"B.go", "a.go", "b.go", "x.go"}},
		{[]string{"*.go"}, []string{"b*"}, []string{"B.go", "a.go", "x.go"}},
		{[]string{"*.go"}, []string{"**/*.go"}, nil},
		{[]string{"**/*.go"}, []string{"*.go"}, []string{"x/c.go", "x/y/d.go"}},
		{[]string{"x/**"}, nil, []string{"x/c.go", "x/y/d.go"}},
		{[]string{"x/*"}, nil, []string{"x/c.go"}},
		{[]string{"*/e"}, nil, []string{"a-b/e", "a.b/e", "a/e", "a0/e"}},
		{[]string{"**"}, []string{"**/e", "**/*.go"}, []string{".rc", "a.c"}},
		{[]string{"**"}, []string{"a.c"}, []string{".rc", "B.go", "a-b/e", "a.b/e", "a.go", "a/e", "a0/e", "b.go", "x.go", "x/c.go", "x/y/d.go"}},
		{[]string{"b.go", "a.*"}, nil, []string{"a.c", "a.go", "b.go"}},
		{[]string{"a.go", "b.go", "a.go", "*.go"}, []string{"x.go", "B.go"}, []string{"a.go", "b.go"}},
		{[]string{"a.go"}, []string{"b.go"}, []string{"a.go"}},
		{[]string{"a.go", "b.go"}, []string{"a.go", "a.go"}, []string{"b.go"}},
		{[]string{"no"}, nil, nil},
		{[]string{"a"}, nil, nil},
	} {
		if got := Pick(files, c.some, c.none); !slices.Equal(got, c.want) {
			t.Errorf("%d: Pick of %q, %q is %q, want %q", i, c.some, c.none, got, c.want)
		}
	}
	if got := Pick(nil, []string{"**"}, nil); len(got) != 0 {
		t.Errorf("%q of no paths", got)
	}
}

// P4.3: a path that is given several times is picked once.
func TestPickTwice(t *testing.T) {
	for _, l := range [][]string{{"a", "a"}, {"b", "a", "b", "a"}, {"b", "b", "b", "a"}, {"a", "b", "c", "c", "b", "a"}} {
		want := slices.Compact(slices.Sorted(slices.Values(l)))
		if got := Pick(l, []string{"*", "**", "?"}, nil); !slices.Equal(got, want) {
			t.Errorf("Pick of %q is %q", l, got)
		}
	}
}

// P4.3: strings that are no paths are ignored, and strings that are no patterns match nothing, among some and among none.
func TestPickWrong(t *testing.T) {
	wrong := append(noPaths(), "*", "?", "a*", "**")
	paths := append(slices.Clone(wrong), "b", "a")
	if got := Pick(paths, []string{"**"}, nil); !slices.Equal(got, []string{"a", "b"}) {
		t.Errorf("%q of strings that are no paths", got)
	}
	if got := Pick(wrong, append(slices.Clone(wrong), "*/**"), nil); len(got) != 0 {
		t.Errorf("%q of strings that are no paths", got)
	}
	bad := slices.Concat(noPaths(), noPatterns())
	l := []string{"x.go", "a/b", "a", strings.Repeat("a", 64), many("a", 16)}
	if got := Pick(l, bad, nil); len(got) != 0 {
		t.Errorf("%q for strings that are no patterns", got)
	}
	sorted := slices.Sorted(slices.Values(l))
	if got := Pick(l, append(bad, "**"), bad); !slices.Equal(got, sorted) {
		t.Errorf("%q, want %q", got, sorted)
	}
	if got := Pick(l, []string{"**"}, append(bad, "a", "*.go")); !slices.Equal(got, sorted[1:len(sorted)-1]) {
		t.Errorf("%q, want %q", got, sorted[1:len(sorted)-1])
	}
}

// P4.3: many paths, against telling one by one what is picked.
func TestPickAll(t *testing.T) {
	paths := joined([]string{"b", "a.c", "ab", ".c"}, "/", 4)
	slices.Reverse(paths)
	patterns := joined([]string{"**", "a*", "*.c", "?"}, "/", 3)
	for i, p := range patterns {
		some, none := []string{p, patterns[(i*7+1)%len(patterns)]}, []string{patterns[(i*11+2)%len(patterns)]}
		in := func(l []string, s string) bool {
			return slices.ContainsFunc(l, func(p string) bool { return expression(p).MatchString(s) })
		}
		var want []string
		for _, s := range paths {
			if in(some, s) && !in(none, s) {
				want = append(want, s)
			}
		}
		slices.Sort(want)
		if got := Pick(paths, some, none); !slices.Equal(got, want) {
			t.Fatalf("Pick for %q, %q is %q, want %q", some, none, got, want)
		}
	}
}

// R3: arguments stay as they are, and a result is memory of its own.
func TestPickMemory(t *testing.T) {
	paths, some, none := []string{"c", "b", "a", "b", "d"}[:4], []string{"**", "a"}, []string{"x", "c"}
	first := Pick(paths, some, none)
	for i := range first {
		first[i] = "changed"
	}
	_ = append(first, "more")
	if !slices.Equal(paths[:5], []string{"c", "b", "a", "b", "d"}) || !slices.Equal(some, []string{"**", "a"}) || !slices.Equal(none, []string{"x", "c"}) {
		t.Errorf("arguments are %q, %q, %q", paths[:5], some, none)
	}
	second := Pick(paths, some, none)
	paths[1], paths[2], some[0], none[0] = "x", "x", "x", "**"
	if !slices.Equal(second, []string{"a", "b"}) {
		t.Errorf("Pick is %q", second)
	}
}

// P4.3: what is ahead of the first wildcard.
func TestFixed(t *testing.T) {
	long := strings.Repeat("x", 64)
	for p, want := range map[string]string{
		"a": "a", "a/b": "a/b", ".rc": ".rc", "a/b/c.go": "a/b/c.go", long: long, many(long, 16): many(long, 16),
		"*": "", "?": "", "**": "", "*a": "", "?a": "", "**/a": "", "**/**": "", "*/a/b": "", "?/a": "",
		"a*": "a", "ab?": "ab", "a*b": "a", "a?b*c": "a", "a*b?c": "a", "a*?": "a", "a?*": "a", "*.go": "", "x.*": "x.",
		"a/*": "a/", "a/?": "a/", "a/**": "a/", "a/b*.c": "a/b", "a/b?.c": "a/b", "a/**/c": "a/", "a/*/c": "a/", "a/b/**/c": "a/b/", "a/b/**": "a/b/",
		"a/**/b*": "a/", "a*/**": "a", "a?/**": "a", "a/b/*/c/**": "a/b/", "a/**/**": "a/", "a/b*/c?": "a/b",
		long[:63] + "*": long[:63], long[:63] + "?": long[:63], many("a", 15) + "/**": many("a", 15) + "/", many("a", 16)[:30] + "*": many("a", 15) + "/",
	} {
		if got := Fixed(p); got != want {
			t.Errorf("Fixed(%q) is %q, want %q", p, got, want)
		}
	}
	for _, p := range slices.Concat(noPaths(), noPatterns()) {
		if got := Fixed(p); got != "" {
			t.Errorf("Fixed(%q) is %q", p, got)
		}
	}
}

// P4.3: all short strings of some letters.
func TestFixedAll(t *testing.T) {
	ahead := regexp.MustCompile(`^[^*?]*`)
	for _, p := range words("a.*?/", 7) {
		want := ""
		if isPattern(p) {
			want = ahead.FindString(p)
		}
		if got := Fixed(p); got != want {
			t.Fatalf("Fixed(%q) is %q, want %q", p, got, want)
		}
	}
}

// P4.4: a path is a pattern that matches only itself.
func TestPathAsPattern(t *testing.T) {
	l := append(joined([]string{"a", "b", "ab", "a.b", ".a"}, "/", 4), words("a./", 5)...)
	l = append(l, strings.Repeat("x", 64), many("a", 16), many(strings.Repeat("x", 64), 16))
	for _, s := range l {
		if !isPath(s) {
			continue
		}
		if !May(s) || !Match(s, s) || Fixed(s) != s {
			t.Errorf("%q as a pattern: %t, %t, %q", s, May(s), Match(s, s), Fixed(s))
		}
		if got := Pick(l, []string{s}, nil); !slices.Equal(got, []string{s}) {
			t.Errorf("Pick for %q is %q", s, got)
		}
	}
}

// P4.4: everything that a pattern matches begins with its Fixed.
func TestFixedBegins(t *testing.T) {
	paths := joined([]string{"a", "ab", "a.b"}, "/", 4)
	for _, p := range joined([]string{"**", "a", "a*", "*b", "a?", "a.b"}, "/", 4) {
		for _, s := range paths {
			if Match(p, s) && !strings.HasPrefix(s, Fixed(p)) {
				t.Fatalf("%q matches %q", p, s)
			}
		}
	}
}

// R5: the same call has the same result, whatever was called in between.
func TestCallsApart(t *testing.T) {
	l := []string{"a", "a/b.c", "*", "a/**", "**/b.c", "a**", "", "?", "/"}
	type result struct {
		may, match bool
		fixed      string
	}
	first := map[[2]string]result{}
	for range 2 {
		for _, p := range l {
			for _, s := range l {
				got := result{May(p), Match(p, s), Fixed(p)}
				if want, ok := first[[2]string{p, s}]; ok && got != want {
					t.Errorf("%q, %q: %v, and then %v", p, s, want, got)
				}
				first[[2]string{p, s}] = got
			}
		}
	}
}

// R1: arbitrary bytes.
func FuzzGlobs(f *testing.F) {
	for _, p := range slices.Concat(noPaths(), noPatterns(), []string{"a/**/c", "*.go", "?*?"}) {
		if len(p) < 2000 {
			f.Add(p, "a/b/c")
			f.Add("**", p)
		}
	}
	f.Fuzz(func(t *testing.T, p, s string) {
		may := May(p)
		if may != isPattern(p) {
			t.Errorf("May(%q) is %t", p, may)
		}
		got := Match(p, s)
		if want := may && isPath(s) && expression(p).MatchString(s); got != want {
			t.Errorf("Match(%q, %q) is %t", p, s, got)
		}
		if got && !strings.HasPrefix(s, Fixed(p)) {
			t.Errorf("Fixed(%q) is %q", p, Fixed(p))
		}
		if l := Pick([]string{s, "a", s}, []string{p}, []string{"a"}); slices.Contains(l, s) != (got && s != "a") || len(l) > 1 {
			t.Errorf("Pick of %q for %q is %q", s, p, l)
		}
	})
}
