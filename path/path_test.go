package path

import (
	"regexp"
	"slices"
	"strings"
	"testing"

	"bloomery/api"
)

// characters are all that a component may have.
const characters = "abcdefghijklmnopqrstuvwxyzABCDEFGHIJKLMNOPQRSTUVWXYZ0123456789_.-+"

// words are all strings of at most n of the letters.
func words(letters string, n int) []string {
	l := []string{""}
	for from := 0; n > 0; n-- {
		to := len(l)
		for _, w := range l[from:to] {
			for i := range len(letters) {
				l = append(l, w+letters[i:i+1])
			}
		}
		from = to
	}
	return l
}

// pathsOf are all paths of at most n of the components.
func pathsOf(components []string, n int) []string {
	l := slices.Clone(components)
	for from := 0; n > 1; n-- {
		to := len(l)
		for _, dir := range l[from:to] {
			for _, c := range components {
				l = append(l, dir+"/"+c)
			}
		}
		from = to
	}
	return l
}

// deep is a path of n components that are c.
func deep(c string, n int) string {
	return strings.TrimSuffix(strings.Repeat(c+"/", n), "/")
}

// invalid are strings that are neither paths nor the top.
func invalid() []string {
	long := strings.Repeat("x", api.MaxName+1)
	return []string{
		".", "..", "/", "//", "///", "/a", "a/", "a//b", "//a", "a//", "./a", "../a", "a/.", "a/..", "a/./b", "a/../b", "/a/b", "a/b/",
		" ", "a b", " a", "a ", "a\n", "a\x00", "a:b", "a*", "a?", "a\\b", "a~", "a,b", "a=b", "a@b", "[a]", "{a}", "a&b", "é", "a/é", "\xff", "a/\x80/b",
		"\xc0\xae", "٣", "ａ", long, "a/" + long, long + "/a", long + ".go", deep("a", api.MaxParts+1), deep("a", 1000), deep("a", api.MaxParts) + "/",
		"/" + deep("a", api.MaxParts), strings.Repeat("/", 100_000), strings.Repeat("a", 100_000), strings.Repeat("a/", 100_000),
	}
}

// good tells by another way than May what components look like.
var good = regexp.MustCompile(`^[a-zA-Z0-9_.+-]{1,64}$`)

// isPath tells by another way than May whether s is a path.
func isPath(s string) bool {
	parts := strings.Split(s, "/")
	for _, c := range parts {
		if !good.MatchString(c) || c == "." || c == ".." {
			return false
		}
	}
	return len(parts) <= 16
}

// above are the directories that a path is under, the nearest first.
func above(s string) []string {
	var l []string
	parts := strings.Split(s, "/")
	for n := len(parts) - 1; n >= 0; n-- {
		l = append(l, strings.Join(parts[:n], "/"))
	}
	return l
}

// P3.1: ordinary paths, and the edges of what is one.
func TestMay(t *testing.T) {
	long := strings.Repeat("x", 64)
	for _, s := range []string{
		"a", "Z", "0", "_", "-", "+", "a/b", "a/b/c.go", "BUILD", "out", "out/a", "a.b/c", "A-1_2+3.x", "-a", "+/-/_",
		"...", "....", ".a", "..a", "a.", "a..", "a..b", ".rc/..d", ".../a/...", "a/a/a",
		long, long + "/" + long, "a/" + long, long[:63] + ".", deep("a", 2), deep("a", 15), deep("a", 16), deep(long, 16), deep("...", 16),
	} {
		if !May(s) {
			t.Errorf("%q is a path", s)
		}
	}
	for _, s := range append(invalid(), "") {
		if May(s) {
			t.Errorf("%q is no path", s)
		}
	}
}

// P3.1: every byte at the front, in the middle, at the end, and alone in a component.
func TestMayBytes(t *testing.T) {
	for i := range 256 {
		c := string([]byte{byte(i)})
		want := strings.Contains(characters, c)
		for _, s := range []string{c + "x", "x" + c + "x", "x" + c, "x/" + c + "x", "x/x" + c + "/x", strings.Repeat("x", 63) + c} {
			if may := May(s); may != want && c != "/" {
				t.Errorf("May(%q) is %t", s, may)
			}
		}
		if may := May(c); may != (want && c != ".") {
			t.Errorf("May(%q) is %t", c, may)
		}
	}
}

// P3.1: how many characters a component may have, wherever it stands, and how many components a path may have.
func TestMayLimits(t *testing.T) {
	for n := range 200 {
		c := strings.Repeat("x", n)
		for _, s := range []string{c, c + "/a", "a/" + c, "a/" + c + "/a", deep("a", 15) + "/" + c, c + "/" + deep("a", 15)} {
			if may := May(s); may != (1 <= n && n <= 64) {
				t.Errorf("May with a component of %d characters is %t", n, may)
			}
		}
		for _, c := range []string{"a", "...", strings.Repeat("x", 64)} {
			if may := May(deep(c, n)); may != (1 <= n && n <= 16) {
				t.Errorf("May with %d components is %t", n, may)
			}
		}
	}
}

// P3.1: a component that isn't one, at any place among others.
func TestMayPlaces(t *testing.T) {
	for _, c := range []string{"", ".", "..", "a b", "*", strings.Repeat("x", 65)} {
		for n := range 16 {
			for m := range 16 - n {
				l := slices.Concat(slices.Repeat([]string{"a"}, n), []string{c}, slices.Repeat([]string{"a"}, m))
				if s := strings.Join(l, "/"); May(s) {
					t.Errorf("%q is no path", s)
				}
			}
		}
	}
}

// P3.1: all short strings of some letters.
func TestMayAll(t *testing.T) {
	for _, s := range words("a./*", 7) {
		if may := May(s); may != isPath(s) {
			t.Fatalf("May(%q) is %t", s, may)
		}
	}
}

// P3.1: joining directories and paths.
func TestJoin(t *testing.T) {
	long := strings.Repeat("x", 64)
	for _, c := range []struct{ dir, s, want string }{
		{"", "a", "a"},
		{"", "a/b", "a/b"},
		{"", deep("a", 16), deep("a", 16)},
		{"a", "b", "a/b"},
		{"a", "a", "a/a"},
		{"a/b", "c.go", "a/b/c.go"},
		{"a", "b/c/d", "a/b/c/d"},
		{"...", ".rc", ".../.rc"},
		{long, long, long + "/" + long},
		{deep(long, 15), long, deep(long, 16)},
		{deep("a", 15), "b", deep("a", 15) + "/b"},
		{"b", deep("a", 15), "b/" + deep("a", 15)},
	} {
		if s, why := Join(c.dir, c.s); why != api.OK || s != c.want {
			t.Errorf("Join(%q, %q) = %q, %d, want %q", c.dir, c.s, s, why, c.want)
		}
	}
}

// P3.1: whatever is wrong with one of both is ErrArg, and is so ahead of too many components.
func TestJoinErrArg(t *testing.T) {
	right := []string{"a", "a/b", ".rc", deep("a", 16)}
	for _, bad := range invalid() {
		for _, other := range right {
			if s, why := Join(bad, other); why != api.ErrArg || s != "" {
				t.Errorf("Join(%q, %q) = %q, %d", bad, other, s, why)
			}
			if s, why := Join(other, bad); why != api.ErrArg || s != "" {
				t.Errorf("Join(%q, %q) = %q, %d", other, bad, s, why)
			}
		}
		if s, why := Join("", bad); why != api.ErrArg || s != "" {
			t.Errorf("Join at the top of %q = %q, %d", bad, s, why)
		}
		if s, why := Join(bad, bad); why != api.ErrArg || s != "" {
			t.Errorf("Join of twice %q = %q, %d", bad, s, why)
		}
	}
	for _, dir := range append(right, "") {
		if s, why := Join(dir, ""); why != api.ErrArg || s != "" {
			t.Errorf("Join(%q, the top) = %q, %d", dir, s, why)
		}
	}
}

// P3.1: ErrLimit exactly if both are right and have too many components together.
func TestJoinErrLimit(t *testing.T) {
	for n := range 20 {
		for m := range 20 {
			dir, s := deep("a", n), deep("bc", m)
			want, wantWhy := strings.TrimPrefix(dir+"/"+s, "/"), api.OK
			if n > 16 || m < 1 || m > 16 {
				want, wantWhy = "", api.ErrArg
			} else if n+m > 16 {
				want, wantWhy = "", api.ErrLimit
			}
			if got, why := Join(dir, s); got != want || why != wantWhy {
				t.Errorf("Join(%q, %q) = %q, %d, want %q, %d", dir, s, got, why, want, wantWhy)
			}
		}
	}
}

// P3.2: the directory, the last component and its ending.
func TestParts(t *testing.T) {
	long := strings.Repeat("x", 64)
	for s, want := range map[string][3]string{
		"a":                     {"", "a", ""},
		"a/b":                   {"a", "b", ""},
		"a/b/c.go":              {"a/b", "c.go", ".go"},
		"a.b/c":                 {"a.b", "c", ""},
		"a.b/c.d":               {"a.b", "c.d", ".d"},
		"a.b/.c":                {"a.b", ".c", ""},
		"a/a":                   {"a", "a", ""},
		"a/b/a/b":               {"a/b/a", "b", ""},
		"aa/a":                  {"aa", "a", ""},
		"x.tar.gz":              {"", "x.tar.gz", ".gz"},
		".rc":                   {"", ".rc", ""},
		".rc.d":                 {"", ".rc.d", ".d"},
		"a.":                    {"", "a.", "."},
		"a..":                   {"", "a..", "."},
		"a..b":                  {"", "a..b", ".b"},
		"..a":                   {"", "..a", ".a"},
		"...":                   {"", "...", "."},
		".a.":                   {"", ".a.", "."},
		".../...":               {"...", "...", "."},
		"a.b-c+d_e":             {"", "a.b-c+d_e", ".b-c+d_e"},
		"d/" + long:             {"d", long, ""},
		long[:62] + ".x":        {"", long[:62] + ".x", ".x"},
		"." + long[:63]:         {"", "." + long[:63], ""},
		long[:63] + ".":         {"", long[:63] + ".", "."},
		"x." + long[:62]:        {"", "x." + long[:62], "." + long[:62]},
		deep("a.b", 16):         {deep("a.b", 15), "a.b", ".b"},
		deep(long, 16):          {deep(long, 15), long, ""},
		deep("a", 15) + "/.z.y": {deep("a", 15), ".z.y", ".y"},
	} {
		if Dir(s) != want[0] || Base(s) != want[1] || Ext(s) != want[2] {
			t.Errorf("%q: %q, %q, %q, want %q", s, Dir(s), Base(s), Ext(s), want)
		}
	}
}

// P3.2: what isn't a path has no parts.
func TestPartsNone(t *testing.T) {
	for _, s := range append(invalid(), "", "a.b/", "/a.b", "a//b.c", "../a.b", "a b.c", deep("a.b", 17)) {
		if Dir(s) != "" || Base(s) != "" || Ext(s) != "" {
			t.Errorf("%q: %q, %q, %q", s, Dir(s), Base(s), Ext(s))
		}
	}
}

// P3.2: all short strings of some letters.
func TestPartsAll(t *testing.T) {
	for _, s := range words("a./b", 7) {
		var dir, base, ext string
		if isPath(s) {
			parts := strings.Split(s, "/")
			base = parts[len(parts)-1]
			dir = strings.Join(parts[:len(parts)-1], "/")
			if dots := strings.Split(base[1:], "."); len(dots) > 1 {
				ext = "." + dots[len(dots)-1]
			}
		}
		if Dir(s) != dir || Base(s) != base || Ext(s) != ext {
			t.Fatalf("%q: %q, %q, %q, want %q, %q, %q", s, Dir(s), Base(s), Ext(s), dir, base, ext)
		}
	}
}

// P3.3: what is under a directory, and what only looks so.
func TestUnder(t *testing.T) {
	for _, c := range []struct {
		s, dir string
		want   bool
	}{
		{"a", "", true},
		{"a/b", "", true},
		{"a/b", "a", true},
		{"a/b/c", "a", true},
		{"a/b/c", "a/b", true},
		{".../a", "...", true},
		{deep("a", 16), "", true},
		{deep("a", 16), deep("a", 15), true},
		{"a", "a", false},
		{"a/b", "a/b", false},
		{"a/b", "b", false},
		{"a", "a/b", false},
		{"ab/c", "a", false},
		{"a.b/c", "a", false},
		{"a/bc/d", "a/b", false},
		{"x/a/b", "a", false},
		{"A/b", "a", false},
		{deep("a", 15), deep("a", 16), false},
		{deep("a", 16), deep("a", 16), false},
		{"", "", false},
		{"", "a", false},
		{"a/", "a", false},
		{"a//b", "a", false},
		{"a/./b", "a", false},
		{"a/../b", "a", false},
		{"a/b", "a/", false},
		{"a/b", "/", false},
		{"/a", "", false},
		{"/a", "/", false},
		{"./a", ".", false},
		{"../a", "..", false},
		{"a b/c", "a b", false},
		{deep("a", 17), "", false},
		{deep("a", 17), "a", false},
		{deep("a", 18), deep("a", 17), false},
	} {
		if got := Under(c.s, c.dir); got != c.want {
			t.Errorf("Under(%q, %q) is %t", c.s, c.dir, got)
		}
	}
}

// P3.3: nothing is under what isn't a directory, and what isn't a path is under nothing.
func TestUnderInvalid(t *testing.T) {
	for _, bad := range invalid() {
		for _, other := range []string{"", "a", "a/b", bad, bad + "/a", "a/" + bad} {
			if Under(bad, other) {
				t.Errorf("Under(%q, %q)", bad, other)
			}
			if Under(other, bad) {
				t.Errorf("Under(%q, %q)", other, bad)
			}
		}
	}
}

// P3.3: all pairs of short strings of some letters.
func TestUnderAll(t *testing.T) {
	l := words("a/.", 5)
	for _, s := range l {
		for _, dir := range l {
			want := isPath(s) && (dir == "" || isPath(dir) && strings.HasPrefix(s, dir+"/"))
			if got := Under(s, dir); got != want {
				t.Fatalf("Under(%q, %q) is %t", s, dir, got)
			}
		}
	}
}

// P3.4: joining Dir and Base of a path yields the path.
func TestJoinDirBase(t *testing.T) {
	l := pathsOf([]string{"a", "ab", ".rc", "x.tar.gz", "...", strings.Repeat("x", 64)}, 4)
	for n := 1; n <= 16; n++ {
		l = append(l, deep("a.b", n), deep(strings.Repeat("x", 64), n))
	}
	for _, s := range l {
		if got, why := Join(Dir(s), Base(s)); got != s || why != api.OK {
			t.Errorf("Join(%q, %q) = %q, %d, want %q", Dir(s), Base(s), got, why, s)
		}
	}
}

// P3.4: what was joined is under its directory, and has the Base and the Ext of what was joined to it.
func TestJoinUnder(t *testing.T) {
	l := pathsOf([]string{"a", "ab", ".a", "b.c"}, 3)
	for _, dir := range append(l, "") {
		for _, s := range l {
			got, why := Join(dir, s)
			if why != api.OK || !Under(got, dir) || Base(got) != Base(s) || Ext(got) != Ext(s) {
				t.Fatalf("Join(%q, %q) = %q, %d", dir, s, got, why)
			}
		}
	}
}

// P3.4: what is under something that is under a directory is under that directory.
func TestUnderTwice(t *testing.T) {
	l := append(pathsOf([]string{"a", "ab", "."}, 3), pathsOf([]string{"a", "b"}, 4)...)
	l = append(l, "", "/", "a/", "a//a")
	for _, s := range l {
		for _, between := range l {
			if !Under(s, between) {
				continue
			}
			for _, dir := range l {
				if Under(between, dir) && !Under(s, dir) {
					t.Fatalf("%q is under %q, and that is under %q", s, between, dir)
				}
			}
		}
	}
}

// P3.4: a path is under exactly its Dir, the Dir of that, and so on, up to the top.
func TestUnderDirs(t *testing.T) {
	l := append(pathsOf([]string{"a", "ab", "b"}, 4), "")
	for _, s := range l[:len(l)-1] {
		dirs := []string{Dir(s)}
		for dirs[len(dirs)-1] != "" {
			dirs = append(dirs, Dir(dirs[len(dirs)-1]))
		}
		if !slices.Equal(dirs, above(s)) {
			t.Fatalf("the directories of %q are %q", s, dirs)
		}
		for _, dir := range l {
			if Under(s, dir) != slices.Contains(dirs, dir) {
				t.Fatalf("Under(%q, %q) is %t", s, dir, Under(s, dir))
			}
		}
	}
}

// R5: the same call has the same result, whatever was called in between.
func TestCallsApart(t *testing.T) {
	l := append(invalid(), "", "a", "a/b.c", ".rc", deep("a", 16))
	type result struct {
		may            bool
		dir, base, ext string
	}
	first := map[string]result{}
	for range 2 {
		for _, s := range l {
			got := result{May(s), Dir(s), Base(s), Ext(s)}
			if want, ok := first[s]; ok && got != want {
				t.Errorf("%q: %v, and then %v", s, want, got)
			}
			first[s] = got
		}
	}
}

// R1: arbitrary bytes.
func FuzzPath(f *testing.F) {
	for _, s := range append(invalid(), "a/b.c", "ab") {
		if len(s) < 2000 {
			f.Add(s, "a")
			f.Add("a", s)
		}
	}
	f.Fuzz(func(t *testing.T, s, dir string) {
		if May(s) != isPath(s) {
			t.Errorf("May(%q) is %t", s, May(s))
		}
		if got, why := Join(Dir(s), Base(s)); May(s) && (got != s || why != api.OK) || !May(s) && (got != "" || why != api.ErrArg) {
			t.Errorf("Join(%q, %q) = %q, %d, of %q", Dir(s), Base(s), got, why, s)
		}
		got, why := Join(dir, s)
		if why == api.OK && (!Under(got, dir) || !May(got)) || why != api.OK && got != "" {
			t.Errorf("Join(%q, %q) = %q, %d", dir, s, got, why)
		}
		if Under(s, dir) != (May(s) && slices.Contains(above(s), dir)) {
			t.Errorf("Under(%q, %q) is %t", s, dir, Under(s, dir))
		}
	})
}
