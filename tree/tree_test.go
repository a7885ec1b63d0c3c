package tree

import (
	"crypto/sha256"
	"regexp"
	"slices"
	"strconv"
	"strings"
	"testing"

	"bloomery/api"
)

// full is as many bytes as a file may have, and huge is one more.
var (
	full = strings.Repeat("x", 65536)
	huge = full + "x"
)

// file is a file with a path and bytes.
func file(path, data string) api.File {
	return api.File{Path: path, Data: data}
}

// files are files whose paths and bytes take turns.
func files(l ...string) []api.File {
	var t []api.File
	for pair := range slices.Chunk(l, 2) {
		t = append(t, file(pair[0], pair[1]))
	}
	return t
}

// empty are files with these paths that have no bytes.
func empty(paths ...string) []api.File {
	var t []api.File
	for _, p := range paths {
		t = append(t, file(p, ""))
	}
	return t
}

// numbered are so many files with these bytes, in order.
func numbered(n int, data string) []api.File {
	var t []api.File
	for i := range n {
		t = append(t, file("f"+strconv.Itoa(10_000+i), data))
	}
	return t
}

// deep is a path of n components that are c.
func deep(c string, n int) string {
	return strings.Join(slices.Repeat([]string{c}, n), "/")
}

// noNames are strings that no file of a tree has as its path.
func noNames() []string {
	long := strings.Repeat("x", 65)
	return []string{
		"", "/", ".", "..", "/a", "a/", "a//b", "./a", "a/..", "a/./b", "a b", " a", "a\n", "a\x00", "a:b", "*", "a?", "**/a", "é", "\xff", "a/\x80",
		long, "a/" + long, deep("a", 17), deep("a", 1000),
		"out", "out/a", "out/a/b.c", "out/out", "out/BUILD", "out/.rc", "out/" + deep("a", 15),
		"out/", "out//a", "out/..", "/out", "./out", "out/" + deep("a", 16),
	}
}

// bytewise are the paths of a tree: some are below others, some only begin as others do, some only look like out.
func bytewise() []string {
	return []string{
		"+", "-", "...", ".rc", "0", "10", "9", "A", "A/z", "B", "BUILD", "OUT", "Out/a", "_", "a", "a+", "a+/b", "a-", "a-/b", "a.", "a.b",
		"a/-", "a/b", "a/b.c", "a/b/c", "a/b/c/d", "a/bc", "a/c", "a/out", "a/out/b", "a0", "a0/b", "aB", "a_", "aa", "aa/b", "ab", "ab/c", "b",
		"o", "ou", "ou/t", "out+", "out-", "out-/a", "out.", "out.d/x", "out0", "outA", "out_", "outer", "outer/a", "outout", "rout", "z",
	}
}

// wrong is a list of files that is no tree, and its error.
type wrong struct {
	name string
	t    []api.File
	why  api.Errno
}

// noTrees are lists of files that are no trees.
func noTrees() []wrong {
	l := []wrong{
		{"twice", empty("a", "a"), api.ErrTwice},
		{"twice, with other bytes", files("a", "x", "a", "y"), api.ErrTwice},
		{"twice in the middle", empty("a", "b", "b", "c"), api.ErrTwice},
		{"twice at the end", empty("a", "b", "c", "c"), api.ErrTwice},
		{"three times", empty("a", "a", "a"), api.ErrTwice},
		{"out of order", empty("b", "a"), api.ErrRange},
		{"out of order at the front", empty("b", "a", "c"), api.ErrRange},
		{"out of order at the end", empty("a", "c", "b"), api.ErrRange},
		{"falling", empty("c", "b", "a"), api.ErrRange},
		{"twice, but apart", empty("a", "b", "a"), api.ErrRange},
		{"a path behind what is below it", empty("a/b", "a"), api.ErrRange},
		{"in the order of components", empty("a/b", "a.b"), api.ErrRange},
		{"in the order of letters", empty("a", "B"), api.ErrRange},
		{"in the order of numbers", empty("9", "10"), api.ErrRange},
		{"too many bytes", files("a", huge), api.ErrLimit},
		{"too many bytes at the front", files("a", huge, "b", ""), api.ErrLimit},
		{"too many bytes at the end", files("a", "", "b", huge), api.ErrLimit},
		{"far too many bytes", files("a", strings.Repeat(huge, 20)), api.ErrLimit},
		{"a file too many", numbered(1025, ""), api.ErrLimit},
		{"far too many files", numbered(5000, "x"), api.ErrLimit},
	}
	for _, p := range noNames() {
		name := strconv.Quote(p)
		l = append(l,
			wrong{name, empty(p), api.ErrName},
			wrong{name + " behind a file", files("+", "", p, "x"), api.ErrName},
			wrong{name + " ahead of a file", files(p, "x", "z", ""), api.ErrName},
		)
	}
	return l
}

// component tells by another way than the program what components look like.
var component = regexp.MustCompile(`^[a-zA-Z0-9_.+-]{1,64}$`)

// checked is by another way than Check what that is to answer.
func checked(t []api.File) api.Errno {
	if len(t) > 1024 {
		return api.ErrLimit
	}
	for i, f := range t {
		parts := strings.Split(f.Path, "/")
		bad := func(c string) bool { return !component.MatchString(c) || c == "." || c == ".." }
		if len(parts) > 16 || parts[0] == "out" || slices.ContainsFunc(parts, bad) {
			return api.ErrName
		}
		if i > 0 && strings.Compare(t[i-1].Path, f.Path) == 0 {
			return api.ErrTwice
		}
		if i > 0 && strings.Compare(t[i-1].Path, f.Path) > 0 {
			return api.ErrRange
		}
		if len(f.Data) > 65536 {
			return api.ErrLimit
		}
	}
	return api.OK
}

// contents are the bytes of files by their paths.
func contents(t []api.File) map[string]string {
	m := map[string]string{}
	for _, f := range t {
		m[f.Path] = f.Data
	}
	return m
}

// ordered are the files with these contents, in order.
func ordered(m map[string]string) []api.File {
	var t []api.File
	for p, data := range m {
		t = append(t, file(p, data))
	}
	slices.SortFunc(t, func(a, b api.File) int { return strings.Compare(a.Path, b.Path) })
	return t
}

// nested are paths in order, some of them below others, some between a path and what is below it.
func nested() []string {
	return []string{"a", "a-b", "a/b", "a/b/c", "a0"}
}

// trees are all trees whose files have some of the paths, and one of the bytes each.
func trees(paths []string, bytes ...string) [][]api.File {
	all := [][]api.File{nil}
	for _, p := range paths {
		for _, t := range slices.Clone(all) {
			for _, data := range bytes {
				all = append(all, append(slices.Clone(t), file(p, data)))
			}
		}
	}
	return all
}

// P5.1: lists of files that are trees.
func TestCheckTrees(t *testing.T) {
	for name, l := range map[string][]api.File{
		"nil":                       nil,
		"no file":                   {},
		"a file":                    files("a", "x"),
		"a file without bytes":      empty("a"),
		"ordinary files":            files("BUILD", "x\n", "RULES", "", "a/BUILD", "y", "a/b.c", "int x;"),
		"all kinds of bytes":        files("a", "\x00\xff\n\r/:\"", "b", "é"),
		"the same bytes":            files("a", "x", "b", "x"),
		"the order of bytes":        empty(bytewise()...),
		"paths below others":        empty("a", "a/b", "a/b/c", "a/b/c/d"),
		"a wide path":               empty(strings.Repeat("x", 64)),
		"a deep path":               empty(deep("a", 16)),
		"the longest path":          empty(deep(strings.Repeat("x", 64), 16)),
		"full files":                files("a", full, "b", full),
		"many files":                numbered(1024, "x"),
		"many files, all full":      numbered(1024, full),
		"paths that begin like out": empty("a/out", "a/out/b", "out-/BUILD", "out.d", "outer/out"),
	} {
		if why := Check(l); why != api.OK {
			t.Errorf("%s: %d", name, why)
		}
	}
}

// P5.1: lists of files that are no trees, and what each call makes of them.
func TestNoTrees(t *testing.T) {
	for _, c := range noTrees() {
		if why := Check(c.t); why != c.why {
			t.Errorf("%s: Check is %d, want %d", c.name, why, c.why)
		}
		for _, p := range []string{"", "a", "b", "q", "z", "out", "out/a", c.t[0].Path, c.t[len(c.t)-1].Path} {
			if l := Put(c.t, file(p, "")); len(l) != 0 {
				t.Errorf("%s: Put of %q has %d files", c.name, p, len(l))
			}
			if l := Drop(c.t, p); len(l) != 0 {
				t.Errorf("%s: Drop of %q has %d files", c.name, p, len(l))
			}
			if l := Paths(c.t, p); len(l) != 0 {
				t.Errorf("%s: Paths below %q are %q", c.name, p, l)
			}
		}
		if d := Sum(c.t); d != (api.Digest{}) {
			t.Errorf("%s: Sum is %x", c.name, d)
		}
		for _, other := range [][]api.File{nil, files("a", "1", "z", "2"), c.t} {
			if from, to := Diff(c.t, other), Diff(other, c.t); len(from) != 0 || len(to) != 0 {
				t.Errorf("%s: Diff is %v and %v", c.name, from, to)
			}
		}
	}
}

// P5.1: how many files there may be, and how many bytes each may have.
func TestCheckLimits(t *testing.T) {
	for n, l := 0, numbered(1100, ""); n <= len(l); n++ {
		if ok := Check(l[:n]) == api.OK; ok != (n <= 1024) {
			t.Errorf("%d files: %t", n, ok)
		}
	}
	for n := 65500; n < 65600; n++ {
		data := strings.Repeat("x", n)
		for _, l := range [][]api.File{files("a", data), files("a", "", "b", data), files("a", data, "b", data), files("a", data, "b", "")} {
			if why := Check(l); why != checked(l) || (why == api.OK) != (n <= 65536) {
				t.Errorf("%d bytes: %d", n, why)
			}
		}
	}
	// Bytes are what counts, not characters.
	if why := Check(files("a", strings.Repeat("é", 32769))); why != api.ErrLimit {
		t.Errorf("32769 characters of two bytes: %d", why)
	}
}

// P5.1: which of several errors comes first.
func TestCheckFirst(t *testing.T) {
	many := numbered(1024, "")
	for i, c := range []struct {
		t    []api.File
		want api.Errno
	}{
		// Too many files come ahead of all that is wrong with one of them.
		{slices.Concat(empty("out"), many), api.ErrLimit},
		{slices.Concat(empty(""), many), api.ErrLimit},
		{slices.Concat(empty("z"), many), api.ErrLimit},
		{slices.Concat(empty("a", "a"), many), api.ErrLimit},
		{slices.Concat(many, empty("out/x")), api.ErrLimit},
		{slices.Concat(many, empty("a")), api.ErrLimit},
		{slices.Repeat(empty("out"), 1025), api.ErrLimit},
		{slices.Repeat(empty("out"), 1024), api.ErrName},
		{slices.Repeat(empty("a"), 1025), api.ErrLimit},
		{slices.Repeat(empty("a"), 1024), api.ErrTwice},
		{slices.Repeat(empty("b", "a"), 512), api.ErrRange},
		// Of one file: first its path, then the one of the file ahead of it, then its bytes.
		{empty("out", "out"), api.ErrName},
		{empty("", ""), api.ErrName},
		{empty("p", "out"), api.ErrName},
		{empty("p", "out/a"), api.ErrName},
		{empty("b", "a//b"), api.ErrName},
		{empty("b", ""), api.ErrName},
		{files("out", huge), api.ErrName},
		{files("out/a", huge), api.ErrName},
		{files("", huge), api.ErrName},
		{files("a", "", "b/", huge), api.ErrName},
		{files("b", "", "a/", huge), api.ErrName},
		{files("a", "", "a", huge), api.ErrTwice},
		{files("b", "", "a", huge), api.ErrRange},
		// Of several files: the first one, whatever is wrong with it.
		{files("a", huge, "out", ""), api.ErrLimit},
		{files("a", huge, "a", ""), api.ErrLimit},
		{files("b", huge, "a", ""), api.ErrLimit},
		{empty("a", "a", "out"), api.ErrTwice},
		{empty("b", "b", "a"), api.ErrTwice},
		{files("a", "", "a", "", "b", huge), api.ErrTwice},
		{empty("b", "a", "out"), api.ErrRange},
		{empty("b", "a", "a"), api.ErrRange},
		{files("b", "", "a", "", "c", huge), api.ErrRange},
		{empty("out", "z", "z"), api.ErrName},
		{empty("out", "b", "a"), api.ErrName},
		{files("out", "", "z", huge), api.ErrName},
	} {
		if why := Check(c.t); why != c.want {
			t.Errorf("%d: %d, want %d", i, why, c.want)
		}
	}
}

// P5.1: all short lists of some files.
func TestCheckAll(t *testing.T) {
	some := append(files("b", huge, "a", huge, "a", "x", "out", huge), empty("", "a", "b", "a-b", "a/b", "a/", "out", "out/a", "outer")...)
	var all func(l []api.File, more int)
	all = func(l []api.File, more int) {
		if why, want := Check(l), checked(l); why != want {
			t.Errorf("%.99q: %d, want %d", l, why, want)
		}
		for _, f := range some {
			if more > 0 {
				all(append(slices.Clone(l), f), more-1)
			}
		}
	}
	all(nil, 4)
}

// P5.1: the bytes of a file, or none.
func TestGet(t *testing.T) {
	l := files("a", "1", "a-b", "", "a/b", "2", "a/b/c", full, "z", "\x00")
	for _, f := range l {
		if data, ok := Get(l, f.Path); !ok || data != f.Data {
			t.Errorf("Get(%q) is %.99q, %t", f.Path, data, ok)
		}
	}
	for _, p := range append(noNames(), "a-", "a/", "a/c", "a/b/c/d", "b", "A", "/a", "a ", "z/a", "zz") {
		if data, ok := Get(l, p); ok || data != "" {
			t.Errorf("Get(%q) is %.99q, %t", p, data, ok)
		}
		if data, ok := Get(nil, p); ok || data != "" {
			t.Errorf("Get(%q) of no file is %.99q, %t", p, data, ok)
		}
	}
}

// P5.1: what Get gets of need not be a tree, and of several files with a path it is the first one.
func TestGetNoTree(t *testing.T) {
	for _, c := range noTrees() {
		for i, f := range c.t {
			first := slices.IndexFunc(c.t[:i+1], func(g api.File) bool { return g.Path == f.Path })
			if data, ok := Get(c.t, f.Path); !ok || data != c.t[first].Data {
				t.Fatalf("%s: Get(%q) is %.99q, %t", c.name, f.Path, data, ok)
			}
		}
		if data, ok := Get(c.t, "missing"); ok || data != "" {
			t.Errorf("%s: Get of no file is %.99q, %t", c.name, data, ok)
		}
	}
	l := files("q", "1", "b", "2", "q", "3", "", "4", "out/x", "5", "a//b", huge, "b", "6", "", "7")
	for p, want := range map[string]string{"q": "1", "b": "2", "": "4", "out/x": "5", "a//b": huge} {
		if data, ok := Get(l, p); !ok || data != want {
			t.Errorf("Get(%q) is %.99q, %t", p, data, ok)
		}
	}
}

// P5.1: a file at its position, and instead of another one.
func TestPut(t *testing.T) {
	l := files("b", "1", "b/c", "2", "d", "3")
	for _, c := range []struct {
		t    []api.File
		f    api.File
		want []api.File
	}{
		{nil, file("a", ""), files("a", "")},
		{[]api.File{}, file("a/b", "x"), files("a/b", "x")},
		{l, file("a", "x"), files("a", "x", "b", "1", "b/c", "2", "d", "3")},
		{l, file("b-", "x"), files("b", "1", "b-", "x", "b/c", "2", "d", "3")},
		{l, file("b/b", "x"), files("b", "1", "b/b", "x", "b/c", "2", "d", "3")},
		{l, file("b/c/d", "x"), files("b", "1", "b/c", "2", "b/c/d", "x", "d", "3")},
		{l, file("outer", "x"), files("b", "1", "b/c", "2", "d", "3", "outer", "x")},
		{l, file("D", full), files("D", full, "b", "1", "b/c", "2", "d", "3")},
		{l, file("b", "x"), files("b", "x", "b/c", "2", "d", "3")},
		{l, file("b/c", ""), files("b", "1", "b/c", "", "d", "3")},
		{l, file("d", full), files("b", "1", "b/c", "2", "d", full)},
		{l, file("d", "3"), l},
		{files("a", full), file("a", ""), files("a", "")},
		{empty("a/b"), file("a", ""), empty("a", "a/b")},
		{empty("a"), file("a/b", ""), empty("a", "a/b")},
	} {
		if got := Put(c.t, c.f); !slices.Equal(got, c.want) {
			t.Errorf("Put(%.99q, %.99q) is %.99q", c.t, c.f, got)
		}
	}
}

// P5.1: there is no result if that is no tree.
func TestPutNone(t *testing.T) {
	for _, l := range [][]api.File{nil, files("a", "1", "b", "2"), numbered(1024, "")} {
		for _, p := range noNames() {
			if got := Put(l, file(p, "")); len(got) != 0 {
				t.Errorf("Put of %q has %d files", p, len(got))
			}
		}
		for _, p := range []string{"+", "a", "b", "f10000", "z"} {
			if got := Put(l, file(p, huge)); len(got) != 0 {
				t.Errorf("Put of a huge %q has %d files", p, len(got))
			}
		}
	}
}

// P5.1: as many files as there may be, and one more.
func TestPutMany(t *testing.T) {
	l := numbered(1023, "x")
	for _, p := range []string{"a", "f10000-", "f10500/a", "z"} {
		if got := Put(l, file(p, "y")); len(got) != 1024 || Check(got) != api.OK {
			t.Errorf("%q is put as file 1024: %d files", p, len(got))
		}
	}
	l = numbered(1024, "x")
	for _, p := range []string{"a", "f10000-", "f10500/a", "z"} {
		if got := Put(l, file(p, "y")); len(got) != 0 {
			t.Errorf("%q is put as file 1025: %d files", p, len(got))
		}
	}
	for i, f := range l {
		want := slices.Clone(l)
		want[i].Data = full
		if got := Put(l, file(f.Path, full)); !slices.Equal(got, want) {
			t.Fatalf("%q is put instead of another one: %d files", f.Path, len(got))
		}
	}
}

// P5.1: all but one file, or all.
func TestDrop(t *testing.T) {
	l := files("a", "1", "a/b", "2", "a/b/c", "", "a0", full)
	for i, f := range l {
		if got := Drop(l, f.Path); !slices.Equal(got, slices.Delete(slices.Clone(l), i, i+1)) {
			t.Errorf("Drop(%q) is %.99q", f.Path, got)
		}
	}
	for _, p := range append(noNames(), "a-", "a/", "a/c", "a/b/c/d", "b", "A", "+", "z") {
		if got := Drop(l, p); !slices.Equal(got, l) {
			t.Errorf("Drop(%q) is %.99q", p, got)
		}
		if got := Drop(nil, p); len(got) != 0 {
			t.Errorf("Drop(%q) of no file is %.99q", p, got)
		}
	}
	if got := Drop(files("a", "x"), "a"); len(got) != 0 {
		t.Errorf("Drop of the only file is %q", got)
	}
	if got := Drop(files("a/b", "x", "a/c", "y"), "a"); !slices.Equal(got, files("a/b", "x", "a/c", "y")) {
		t.Errorf("Drop of a directory is %q", got)
	}
	l = numbered(1024, "x")
	if got := Drop(l, "f10000"); !slices.Equal(got, l[1:]) {
		t.Errorf("Drop of one of many is %d files", len(got))
	}
}

// P5.1: the paths below a directory.
func TestPaths(t *testing.T) {
	l := empty(append([]string{"a", "a-b/c", "a/b", "a/b/c", "a/b/c/d", "a/bc", "ab/c", "b", "b/a/b"}, deep("c", 16))...)
	for dir, want := range map[string][]string{
		"a":           {"a/b", "a/b/c", "a/b/c/d", "a/bc"},
		"a/b":         {"a/b/c", "a/b/c/d"},
		"a/b/c":       {"a/b/c/d"},
		"a-b":         {"a-b/c"},
		"ab":          {"ab/c"},
		"b":           {"b/a/b"},
		"c":           {deep("c", 16)},
		deep("c", 15): {deep("c", 16)},
		"":            {"a", "a-b/c", "a/b", "a/b/c", "a/b/c/d", "a/bc", "ab/c", "b", "b/a/b", deep("c", 16)},
	} {
		if got := Paths(l, dir); !slices.Equal(got, want) {
			t.Errorf("Paths below %q are %q", dir, got)
		}
	}
	none := append(noNames(), "A", "a-", "a/bc", "a/b/c/d", "a/c", "ab/c", "d", "a/b/", "/a/b", "b/c", deep("c", 16))
	for _, dir := range none {
		if got := Paths(l, dir); dir != "" && len(got) != 0 {
			t.Errorf("Paths below %q are %q", dir, got)
		}
		if got := Paths(nil, dir); len(got) != 0 {
			t.Errorf("Paths of no file below %q are %q", dir, got)
		}
	}
	if got := Paths(files("a/b", "1", "c", "2"), "a"); !slices.Equal(got, []string{"a/b"}) {
		t.Errorf("Paths of the example are %q", got)
	}
}

// P5.1: all paths of a tree, in the order of bytes, and below each directory those that begin with it and a slash.
func TestPathsAll(t *testing.T) {
	all := bytewise()
	if got := Paths(empty(all...), ""); !slices.Equal(got, all) {
		t.Errorf("all Paths are %q", got)
	}
	for _, dir := range all {
		var want []string
		for _, p := range all {
			if strings.HasPrefix(p, dir+"/") {
				want = append(want, p)
			}
		}
		if got := Paths(empty(all...), dir); !slices.Equal(got, want) {
			t.Errorf("Paths below %q are %q", dir, got)
		}
	}
	if got := Paths(numbered(1024, full), ""); len(got) != 1024 || got[0] != "f10000" || got[1023] != "f11023" {
		t.Errorf("Paths of many files are %d", len(got))
	}
}

// P5.1: digests by the library's SHA-256 of rows that are written out.
func TestSum(t *testing.T) {
	for row, l := range map[string][]api.File{
		"":                                  nil,
		"1:a0:":                             empty("a"),
		"1:a1:b":                            files("a", "b"),
		"3:a/b1:x1:c0:":                     files("a/b", "x", "c", ""),
		"3:a/b2:é3:a/c3:0:\xff":             files("a/b", "é", "a/c", "0:\xff"),
		"1:a3:1:b1:b1:a":                    files("a", "1:b", "b", "a"),
		"1:a65536:" + full + "2:ab1:\x00":   files("a", full, "ab", "\x00"),
		"5:BUILD12:all(a = \"x\")5:RULES0:": files("BUILD", "all(a = \"x\")", "RULES", ""),
	} {
		if got := Sum(l); got != sha256.Sum256([]byte(row)) {
			t.Errorf("Sum(%.99q) is %x", l, got)
		}
	}
	var row strings.Builder
	l := numbered(1024, strings.Repeat("y", 1000))
	for _, f := range l {
		row.WriteString("6:" + f.Path + "1000:" + f.Data)
	}
	if got := Sum(l); got != sha256.Sum256([]byte(row.String())) {
		t.Errorf("Sum of many files is %x", got)
	}
}

// P5.3: two equal trees have the same Sum, and two others have not, be it for a path, for bytes, or for where these are.
func TestSumApart(t *testing.T) {
	all := append(trees(nested(), "", "a", "1:a"), files("b", ""), files("b", "a"), files("ab", ""), files("a", "b"), files("a", "1:b0:"), files("a", "b0:"), files("a", full), files("a", full[1:]))
	sums := map[api.Digest]int{}
	for i, l := range all {
		got := Sum(l)
		if got != Sum(slices.Clone(l)) {
			t.Fatalf("two Sums of %.99q", l)
		}
		if j, is := sums[got]; is && !slices.Equal(all[j], l) {
			t.Fatalf("one Sum of %.99q and of %.99q", all[j], l)
		}
		sums[got] = i
	}
}

// P5.1: what became of files, each kind, and in the order of the paths.
func TestDiff(t *testing.T) {
	gone := func(p string) api.Change { return api.Change{Path: p, Kind: 2} }
	added := func(p string) api.Change { return api.Change{Path: p, Kind: 1} }
	altered := func(p string) api.Change { return api.Change{Path: p, Kind: 3} }
	for _, c := range []struct {
		a, b []api.File
		want []api.Change
	}{
		{nil, nil, nil},
		{nil, []api.File{}, nil},
		{files("a", "x"), files("a", "x"), nil},
		{nil, empty("a"), []api.Change{added("a")}},
		{empty("a"), nil, []api.Change{gone("a")}},
		{files("a", "x"), files("a", "y"), []api.Change{altered("a")}},
		{files("a", "x"), files("a", ""), []api.Change{altered("a")}},
		{files("a", ""), files("a", "x"), []api.Change{altered("a")}},
		{files("a", full), files("a", full[1:]), []api.Change{altered("a")}},
		{files("a", "x"), files("b", "x"), []api.Change{gone("a"), added("b")}},
		{files("b", "x"), files("a", "x"), []api.Change{added("a"), gone("b")}},
		{files("a", "x", "b", "y"), files("a", "y", "b", "x"), []api.Change{altered("a"), altered("b")}},
		{empty("a"), empty("a/b"), []api.Change{gone("a"), added("a/b")}},
		{empty("a/b"), empty("a", "a/b"), []api.Change{added("a")}},
		{empty("a", "a/b"), empty("a"), []api.Change{gone("a/b")}},
		{empty("a/b"), empty("a-b"), []api.Change{added("a-b"), gone("a/b")}},
		{empty("a", "c", "e"), empty("b", "d", "f"), []api.Change{gone("a"), added("b"), gone("c"), added("d"), gone("e"), added("f")}},
		{empty("b", "d"), empty("a", "c"), []api.Change{added("a"), gone("b"), added("c"), gone("d")}},
		{empty("a", "b", "c"), empty("b"), []api.Change{gone("a"), gone("c")}},
		{empty("b"), empty("a", "b", "c"), []api.Change{added("a"), added("c")}},
		{
			files("a", "1", "b", "2", "c", "3", "d", "4"), files("a", "1", "b", "x", "d", "4", "e", "5"),
			[]api.Change{altered("b"), gone("c"), added("e")},
		},
	} {
		if got := Diff(c.a, c.b); !slices.Equal(got, c.want) {
			t.Errorf("Diff(%.99q, %.99q) is %v", c.a, c.b, got)
		}
	}
	if got := Diff(numbered(1024, "x"), empty(bytewise()...)); len(got) != 1024+len(bytewise()) {
		t.Errorf("%d changes between two trees of which no file is in both", len(got))
	}
}

// applied is a tree to which changes to another tree were applied.
func applied(a []api.File, l []api.Change, b []api.File) []api.File {
	for _, c := range l {
		if c.Kind == api.Gone {
			a = Drop(a, c.Path)
			continue
		}
		data, _ := Get(b, c.Path)
		a = Put(a, file(c.Path, data))
	}
	return a
}

// P5.1 and P5.3: all pairs of some trees: each path is told of once, in order and rightly, and the changes lead from one to the other.
func TestDiffAll(t *testing.T) {
	all := trees(nested(), "", "x")
	for _, a := range all {
		for _, b := range all {
			var want []api.Change
			from, to := contents(a), contents(b)
			for _, p := range nested() {
				old, was := from[p]
				data, is := to[p]
				switch {
				case was && !is:
					want = append(want, api.Change{Path: p, Kind: api.Gone})
				case !was && is:
					want = append(want, api.Change{Path: p, Kind: api.Added})
				case old != data:
					want = append(want, api.Change{Path: p, Kind: api.Altered})
				}
			}
			got := Diff(a, b)
			if !slices.Equal(got, want) {
				t.Fatalf("Diff(%q, %q) is %v", a, b, got)
			}
			if c := applied(a, got, b); !slices.Equal(c, b) || Sum(c) != Sum(b) {
				t.Fatalf("with the changes between %q and %q there is %q", a, b, c)
			}
		}
	}
}

// P5.2: what was put can be got, what was dropped can't, all other files stay, and each tree is one as before.
func TestPutDropAll(t *testing.T) {
	paths := append(nested(), "+", "a/a", "a/b-", "b")
	for _, l := range trees(nested(), "", "x") {
		for _, p := range paths {
			m := contents(l)
			for _, data := range []string{"y", "x", ""} {
				m[p] = data
				put := Put(l, file(p, data))
				if got, ok := Get(put, p); !ok || got != data || Check(put) != api.OK || !slices.Equal(put, ordered(m)) {
					t.Fatalf("Put(%q, %q) is %q", l, p, put)
				}
				if again := Put(put, file(p, data)); !slices.Equal(again, put) {
					t.Fatalf("Put(%q, %q) is %q", put, p, again)
				}
			}
			delete(m, p)
			dropped := Drop(l, p)
			if _, ok := Get(dropped, p); ok || Check(dropped) != api.OK || !slices.Equal(dropped, ordered(m)) {
				t.Fatalf("Drop(%q, %q) is %q", l, p, dropped)
			}
			if again := Drop(Put(l, file(p, "y")), p); !slices.Equal(again, dropped) {
				t.Fatalf("Drop of %q that was put into %q is %q", p, l, again)
			}
		}
	}
}

// P5.2: whatever order files are put in, there is one tree.
func TestPutOrders(t *testing.T) {
	want := empty(bytewise()...)
	for step := range want {
		// Steps may come to some files more than once and to others never; these are put at the end.
		var l []api.File
		for i := range want {
			l = Put(l, want[i*step%len(want)])
		}
		for i := range want {
			l = Put(l, want[len(want)-1-i])
		}
		if !slices.Equal(l, want) {
			t.Fatalf("in steps of %d there is %q", step, l)
		}
	}
}

// R3: arguments stay as they are, with what is behind them.
func TestArgumentsStay(t *testing.T) {
	whole := files("b", "1", "d", "2", "f", "3", "x", "4", "y", "5")
	other := files("b", "1", "c", "2", "f", "0", "x", "4")
	for n := range len(whole) + 1 {
		l, m := slices.Clone(whole), slices.Clone(other)
		for _, p := range []string{"a", "b", "c", "d", "f", "g", "out", ""} {
			Put(l[:n], file(p, "new"))
			Drop(l[:n], p)
			Paths(l[:n], p)
			Get(l[:n], p)
		}
		Sum(l[:n])
		Check(l[:n])
		Diff(l[:n], m)
		Diff(m, l[:n])
		if !slices.Equal(l, whole) || !slices.Equal(m, other) {
			t.Errorf("with %d files there is %q and %q", n, l, m)
		}
	}
}

// R3: writing into a result changes neither an argument nor another result.
func TestResultsApart(t *testing.T) {
	l := files("b", "1", "d", "2")
	want := slices.Clone(l)
	calls := map[string]func() []api.File{
		"a file in front":   func() []api.File { return Put(l, file("a", "")) },
		"a file at the end": func() []api.File { return Put(l, file("z", "")) },
		"another file":      func() []api.File { return Put(l, file("b", "x")) },
		"the same file":     func() []api.File { return Put(l, file("b", "1")) },
		"a file less":       func() []api.File { return Drop(l, "d") },
		"no file less":      func() []api.File { return Drop(l, "q") },
	}
	for name, call := range calls {
		first, second := call(), call()
		right := slices.Clone(first)
		for i := range second {
			second[i] = file("written", "written")
		}
		second = append(second, file("more", ""))
		if !slices.Equal(l, want) || !slices.Equal(first, right) || !slices.Equal(call(), right) {
			t.Errorf("%s: written into a result, there is %q and %q", name, l, first)
		}
	}
	paths, changes := Paths(l, ""), Diff(nil, l)
	paths[0], changes[0] = "written", api.Change{}
	if !slices.Equal(Paths(l, ""), []string{"b", "d"}) || Diff(nil, l)[0] != (api.Change{Path: "b", Kind: api.Added}) {
		t.Error("written into Paths and Diff, they are others")
	}
	put := Put(l, file("c", ""))
	l[0], l[1] = file("z", "z"), file("y", "y")
	if !slices.Equal(put, files("b", "1", "c", "", "d", "2")) {
		t.Errorf("written into an argument, there is %q", put)
	}
}

// R1: arbitrary bytes as paths and as files.
func FuzzTree(f *testing.F) {
	f.Add("a\x01x\x00a/b\x01\x00b\x01y", "a\x01y\x00a-b\x01", "a/b")
	f.Add("b\x00a", "a\x00a\x00out/x", "")
	f.Add("", "\x00\x01", "out")
	parsed := func(s string) []api.File {
		var l []api.File
		for one := range strings.SplitSeq(s, "\x00") {
			p, data, _ := strings.Cut(one, "\x01")
			l = append(l, file(p, data))
		}
		return l
	}
	f.Fuzz(func(t *testing.T, s, other, p string) {
		a, b := parsed(s), parsed(other)
		for _, l := range [][]api.File{a, b} {
			if why := Check(l); why != checked(l) {
				t.Errorf("Check(%q) is %d", l, why)
			}
			put, dropped := Put(l, file(p, "x")), Drop(l, p)
			if Check(put) != api.OK || Check(dropped) != api.OK {
				t.Errorf("%q: Put of %q is %q, and Drop is %q", l, p, put, dropped)
			}
			if _, ok := Get(dropped, p); ok {
				t.Errorf("Drop(%q, %q) is %q", l, p, dropped)
			}
			got, ok := Get(put, p)
			if may := checked(l) == api.OK && checked(empty(p)) == api.OK; ok != may || may && got != "x" {
				t.Errorf("Put(%q, %q) is %q", l, p, put)
			}
		}
		if Check(a) != api.OK || Check(b) != api.OK {
			return
		}
		if c := applied(a, Diff(a, b), b); !slices.Equal(c, b) || (Sum(a) == Sum(b)) != slices.Equal(a, b) {
			t.Errorf("with the changes between %q and %q there is %q", a, b, c)
		}
	})
}
