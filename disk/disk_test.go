package disk

import (
	"math"
	"math/rand"
	"slices"
	"strconv"
	"strings"
	"testing"

	"bloomery/api"
)

// entry is what a file should be: its name, its durable bytes, and its other ones.
type entry struct{ name, sure, rest string }

// sorted are files in the order of their names.
func sorted(l []entry) []entry {
	return slices.SortedFunc(slices.Values(l), func(a, b entry) int { return strings.Compare(a.name, b.name) })
}

// tells ends the test if a call returned another error than it should.
func tells(t *testing.T, call string, got, want api.Errno) {
	t.Helper()
	if got != want {
		t.Fatalf("%s: error %d, want %d", call, got, want)
	}
}

// filled is a new disk with these files, which are created in their order.
func filled(t *testing.T, l ...entry) *Disk {
	t.Helper()
	d := New()
	for _, e := range l {
		tells(t, "Append", d.Append(e.name, e.sure), api.OK)
		tells(t, "Sync", d.Sync(e.name), api.OK)
		tells(t, "Append", d.Append(e.name, e.rest), api.OK)
	}
	return d
}

// bears ends the test if a disk's files are not these, by their names and all their bytes.
func bears(t *testing.T, d *Disk, l ...entry) {
	t.Helper()
	var names []string
	for _, e := range sorted(l) {
		names = append(names, e.name)
		if data, why := d.Read(e.name); data != e.sure+e.rest || why != api.OK {
			t.Fatalf("Read of %q is %.40q, error %d, want %.40q", e.name, data, why, e.sure+e.rest)
		}
	}
	if got := d.Names(); !slices.Equal(got, names) {
		t.Fatalf("Names is %q, want %q", got, names)
	}
	lacks(t, d, "")
	lacks(t, d, "a name that no file has")
}

// lacks ends the test if a disk has a file with this name.
func lacks(t *testing.T, d *Disk, name string) {
	t.Helper()
	if data, why := d.Read(name); data != "" || why != api.ErrNone {
		t.Fatalf("Read of %q is %.40q, error %d", name, data, why)
	}
}

// holds ends the test if a disk's files are not these, what is durable of them included.
func holds(t *testing.T, d *Disk, l ...entry) {
	t.Helper()
	bears(t, d, l...)
	var least, most []entry
	var picks []int
	for _, e := range sorted(l) {
		least = append(least, entry{name: e.name, sure: e.sure})
		most = append(most, entry{name: e.name, sure: e.sure + e.rest})
		if e.rest != "" {
			picks = append(picks, len(e.rest))
		}
	}
	bears(t, d.Crash(nil), least...)
	bears(t, d.Crash(picks), most...)
	bears(t, d, l...)
}

// left is how many writing calls a disk allows until its power fails; 100 if it is as many or more.
func left(t *testing.T, d *Disk) int {
	t.Helper()
	for n := range 100 {
		switch why := d.Append("count", ""); why {
		case api.OK:
		case api.ErrGone:
			return n
		default:
			t.Fatalf("Append: error %d", why)
		}
	}
	return 100
}

// calls are the errors of all writing calls with a name, of which Rename has another one too.
func calls(d *Disk, name, other string) []api.Errno {
	return []api.Errno{d.Append(name, "data"), d.Append(name, ""), d.Sync(name), d.Rename(name, other), d.Remove(name)}
}

// bytewise are names in ascending order, among them such as are no text, begin as others do, or look like paths.
func bytewise() []string {
	return []string{
		"\x00", "\x00\x00", "\n", " ", "  ", "*", "..", "/", "/a", "0", "10", "9", "A", "Z", "a", "a\x00", "a\x00b", "a ", "a.new", "a/", "a/../b", "a/b", "aA", "aa", "ab",
		"b", "keep", "keep.new", "out/a", strings.Repeat("x", 65), strings.Repeat("x", 70000), "z", "\u0301", "é", "\xff", "\xff\x00", "\xff\xff",
	}
}

// P7.1: a new disk has no files, and is another one than each disk before.
func TestNew(t *testing.T) {
	d := New()
	if d == nil || d == New() {
		t.Fatal("New")
	}
	holds(t, d)
	for _, name := range bytewise() {
		lacks(t, d, name)
	}
	d.Append("a", "x")
	holds(t, New())
	if len(d.Names()) != 1 {
		t.Error("a new disk took away another one's files")
	}
}

// P7.1: a new disk's power never fails.
func TestNewPower(t *testing.T) {
	d := New()
	for range 20000 {
		for i, why := range []api.Errno{d.Append("a", "xy"), d.Sync("a"), d.Rename("a", "b"), d.Rename("b", "b"), d.Remove("b")} {
			tells(t, strconv.Itoa(i), why, api.OK)
		}
	}
	holds(t, d)
}

// P7.1: Names is in the order of the names' bytes, in whichever order files were created.
func TestNames(t *testing.T) {
	want := slices.Clone(bytewise())
	slices.Sort(want)
	r := rand.New(rand.NewSource(1))
	for range 50 {
		l := slices.Clone(want)
		r.Shuffle(len(l), func(i, j int) { l[i], l[j] = l[j], l[i] })
		d := New()
		for _, name := range l {
			tells(t, "Append", d.Append(name, ""), api.OK)
		}
		for range 5 {
			if got := d.Names(); !slices.Equal(got, want) {
				t.Fatalf("Names is %.400q", got)
			}
		}
		if got := d.Crash(nil).Names(); !slices.Equal(got, want) {
			t.Fatalf("Names behind a crash is %.400q", got)
		}
	}
}

// P7.1: names that differ in any byte, or in their length, are those of different files.
func TestNamesApart(t *testing.T) {
	d := New()
	var l []entry
	for i, name := range bytewise() {
		e := entry{name: name, rest: strconv.Itoa(i)}
		tells(t, "Append", d.Append(e.name, e.rest), api.OK)
		l = append(l, e)
		holds(t, d, l...)
	}
	for len(l) > 0 {
		tells(t, "Remove", d.Remove(l[0].name), api.OK)
		lacks(t, d, l[0].name)
		l = l[1:]
		holds(t, d, l...)
	}
}

// P7.1: Read returns any bytes as they were appended, as often as it is called.
func TestRead(t *testing.T) {
	var all strings.Builder
	for i := range 256 {
		all.WriteByte(byte(i))
	}
	for _, data := range []string{"x", "\x00", "\xff\xfe", "é", "a\r\n", " ", all.String(), strings.Repeat("x", 1<<20) + "y"} {
		d := filled(t, entry{name: "a", rest: data})
		for range 3 {
			holds(t, d, entry{name: "a", rest: data})
		}
		d.Sync("a")
		holds(t, d, entry{name: "a", sure: data})
	}
}

// P7.2: Append puts bytes behind those that are there, and makes none durable.
func TestAppend(t *testing.T) {
	d := New()
	rest := ""
	for _, data := range []string{"", "x", "", "yz", "\x00", "", "x", strings.Repeat("long ", 50000), "end"} {
		tells(t, "Append", d.Append("a", data), api.OK)
		rest += data
		holds(t, d, entry{name: "a", rest: rest})
	}
	d.Sync("a")
	holds(t, d, entry{name: "a", sure: rest})
	d.Append("a", "")
	holds(t, d, entry{name: "a", sure: rest})
	d.Append("a", "1")
	d.Append("a", "2")
	holds(t, d, entry{name: "a", sure: rest, rest: "12"})
}

// P7.2: a file that is created with no bytes is there, also behind a crash.
func TestAppendNothing(t *testing.T) {
	d := New()
	tells(t, "Append", d.Append("a", ""), api.OK)
	holds(t, d, entry{name: "a"})
	tells(t, "Append", d.Append("a", ""), api.OK)
	holds(t, d, entry{name: "a"})
	tells(t, "Sync", d.Sync("a"), api.OK)
	holds(t, d, entry{name: "a"})
	tells(t, "Rename", d.Rename("a", "b"), api.OK)
	holds(t, d, entry{name: "b"})
	holds(t, d.Crash([]int{7}), entry{name: "b"})
	tells(t, "Append", d.Append("b", "x"), api.OK)
	holds(t, d, entry{name: "b", rest: "x"})
	tells(t, "Remove", d.Remove("b"), api.OK)
	holds(t, d)
}

// P7.2: Sync makes all bytes of one file durable, and of no other.
func TestSync(t *testing.T) {
	d := filled(t, entry{"a", "", "12"}, entry{"aa", "3", "4"}, entry{"b", "", "5"})
	tells(t, "Sync", d.Sync("aa"), api.OK)
	holds(t, d, entry{"a", "", "12"}, entry{"aa", "34", ""}, entry{"b", "", "5"})
	tells(t, "Sync", d.Sync("aa"), api.OK)
	holds(t, d, entry{"a", "", "12"}, entry{"aa", "34", ""}, entry{"b", "", "5"})
	tells(t, "Sync", d.Sync("a"), api.OK)
	d.Append("aa", "6")
	d.Append("a", "7")
	holds(t, d, entry{"a", "12", "7"}, entry{"aa", "34", "6"}, entry{"b", "", "5"})
}

// P7.2: what is durable goes along with a file's name, and what was durable of the file that had the name is gone.
func TestRename(t *testing.T) {
	for _, c := range []struct {
		name     string
		before   []entry
		from, to string
		after    []entry
	}{
		{"a new name", []entry{{"a", "xyz", "uv"}, {"b", "1", "2"}}, "a", "c", []entry{{"c", "xyz", "uv"}, {"b", "1", "2"}}},
		{"onto a longer file", []entry{{"a", "x", "u"}, {"b", "1234", "56"}}, "a", "b", []entry{{"b", "x", "u"}}},
		{"onto a shorter file", []entry{{"a", "xyz", "uv"}, {"b", "1", ""}}, "a", "b", []entry{{"b", "xyz", "uv"}}},
		{"the other way round", []entry{{"a", "xyz", "uv"}, {"b", "1", ""}}, "b", "a", []entry{{"a", "1", ""}}},
		{"all durable onto none", []entry{{"a", "xyz", ""}, {"b", "", "12"}}, "a", "b", []entry{{"b", "xyz", ""}}},
		{"none durable onto all", []entry{{"a", "", "xy"}, {"b", "123", ""}}, "a", "b", []entry{{"b", "", "xy"}}},
		{"no bytes onto some", []entry{{"a", "", ""}, {"b", "123", "4"}}, "a", "b", []entry{{"b", "", ""}}},
		{"some onto no bytes", []entry{{"a", "1", "2"}, {"b", "", ""}}, "a", "b", []entry{{"b", "1", "2"}}},
		{"the same bytes", []entry{{"a", "1", "2"}, {"b", "1", "2"}}, "a", "b", []entry{{"b", "1", "2"}}},
		{"itself", []entry{{"a", "xyz", "uv"}, {"b", "1", "2"}}, "a", "a", []entry{{"a", "xyz", "uv"}, {"b", "1", "2"}}},
		{"itself, with no bytes", []entry{{"a", "", ""}}, "a", "a", []entry{{"a", "", ""}}},
		{"itself, with none durable", []entry{{"a", "", "x"}}, "a", "a", []entry{{"a", "", "x"}}},
		{"a part of its name", []entry{{"a.new", "1", "2"}, {"a", "3", "4"}}, "a.new", "a", []entry{{"a", "1", "2"}}},
	} {
		t.Run(c.name, func(t *testing.T) {
			d := filled(t, c.before...)
			holds(t, d, c.before...)
			tells(t, "Rename", d.Rename(c.from, c.to), api.OK)
			holds(t, d, c.after...)
			for i := range c.after {
				c.after[i].rest = ""
			}
			holds(t, d.Crash(nil), c.after...)
		})
	}
}

// P7.2: a file that is created anew has nothing of the one that was removed or renamed, nor anything durable.
func TestAnew(t *testing.T) {
	d := filled(t, entry{"a", "xyz", "uv"})
	tells(t, "Remove", d.Remove("a"), api.OK)
	holds(t, d)
	holds(t, d.Crash([]int{3}))
	tells(t, "Append", d.Append("a", "12345678"), api.OK)
	holds(t, d, entry{"a", "", "12345678"})
	tells(t, "Sync", d.Sync("a"), api.OK)
	tells(t, "Rename", d.Rename("a", "b"), api.OK)
	tells(t, "Append", d.Append("a", "123456789"), api.OK)
	tells(t, "Append", d.Append("b", "0"), api.OK)
	holds(t, d, entry{"a", "", "123456789"}, entry{"b", "12345678", "0"})
}

// P7.2: Remove removes one file, with what is durable of it.
func TestRemove(t *testing.T) {
	l := []entry{{"a", "xyz", "uv"}, {"aa", "1", ""}, {"b", "", "2"}, {"c", "", ""}}
	for i, e := range l {
		d := filled(t, l...)
		tells(t, "Remove", d.Remove(e.name), api.OK)
		lacks(t, d, e.name)
		holds(t, d, slices.Delete(slices.Clone(l), i, i+1)...)
		tells(t, "Remove", d.Remove(e.name), api.ErrNone)
	}
}

// P7.2: an empty name is ErrArg for each call, before everything else, and changes nothing.
func TestEmptyNames(t *testing.T) {
	for _, budget := range []int{-1, 0, 1, 2} {
		d := filled(t, entry{"a", "x", "y"}, entry{"b", "", "z"})
		d.Budget(budget)
		for i, why := range append(calls(d, "", ""), append(calls(d, "", "a"), calls(d, "", "c")...)...) {
			tells(t, "call "+strconv.Itoa(i), why, api.ErrArg)
		}
		tells(t, "Rename of a file to no name", d.Rename("a", ""), api.ErrArg)
		tells(t, "Rename of no file to no name", d.Rename("none", ""), api.ErrArg)
		holds(t, d, entry{"a", "x", "y"}, entry{"b", "", "z"})
		if got, want := left(t, d), budget; want >= 0 && got != want {
			t.Errorf("%d writing calls are left of %d", got, want)
		}
	}
}

// P7.2: a name that no file has is ErrNone for each call but Append, before ErrGone, and changes nothing.
func TestNoFiles(t *testing.T) {
	for _, budget := range []int{-1, 0, 1, 2} {
		for _, name := range []string{"none", "aa", "A", "a ", "a\x00", "\x00", " "} {
			d := filled(t, entry{"a", "x", "y"}, entry{"b", "", "z"})
			d.Budget(budget)
			for i, why := range []api.Errno{d.Sync(name), d.Rename(name, "a"), d.Rename(name, "b"), d.Rename(name, "c"), d.Rename(name, name), d.Remove(name)} {
				tells(t, "call "+strconv.Itoa(i), why, api.ErrNone)
			}
			lacks(t, d, name)
			holds(t, d, entry{"a", "x", "y"}, entry{"b", "", "z"})
			if got, want := left(t, d), budget; want >= 0 && got != want {
				t.Errorf("%d writing calls are left of %d", got, want)
			}
		}
	}
}

// P7.2: when the power has failed, each call is ErrGone where nothing else stands against it, and changes nothing.
func TestGone(t *testing.T) {
	l := []entry{{"a", "x", "y"}, {"b", "z", ""}, {"c", "", ""}}
	d := filled(t, l...)
	d.Budget(0)
	for range 3 {
		for _, e := range l {
			for i, why := range append(calls(d, e.name, "a"), append(calls(d, e.name, "new"), calls(d, e.name, e.name)...)...) {
				tells(t, "call "+strconv.Itoa(i), why, api.ErrGone)
			}
		}
		tells(t, "Append to no file", d.Append("new", "x"), api.ErrGone)
		tells(t, "Append of nothing to no file", d.Append("new", ""), api.ErrGone)
		lacks(t, d, "new")
		holds(t, d, l...)
	}
}

// P7.3: the power fails after as many writing calls that return OK as Budget says, whichever they are.
func TestBudget(t *testing.T) {
	for n := range 12 {
		d := filled(t, entry{"a", "x", "y"})
		d.Budget(n)
		did := 0
		for _, call := range []func() api.Errno{
			func() api.Errno { return d.Append("a", "z") },
			func() api.Errno { return d.Append("a", "") },
			func() api.Errno { return d.Append("b", "") },
			func() api.Errno { return d.Sync("a") },
			func() api.Errno { return d.Sync("a") },
			func() api.Errno { return d.Sync("b") },
			func() api.Errno { return d.Rename("a", "a") },
			func() api.Errno { return d.Rename("a", "c") },
			func() api.Errno { return d.Rename("c", "b") },
			func() api.Errno { return d.Rename("b", "a") },
			func() api.Errno { return d.Remove("a") },
			func() api.Errno { return d.Append("a", "new") },
		} {
			tells(t, "a call with an empty name", d.Sync(""), api.ErrArg)
			tells(t, "a call of no file", d.Remove("none"), api.ErrNone)
			d.Read("a")
			d.Names()
			d.Crash(nil)
			if did == n {
				// What the calls before left may not have the names that this one needs.
				if why := call(); why != api.ErrGone && why != api.ErrNone {
					t.Fatalf("call %d with the budget %d: error %d", did, n, why)
				}
				continue
			}
			tells(t, "call "+strconv.Itoa(did), call(), api.OK)
			did++
		}
		tells(t, "Append", d.Append("z", ""), api.ErrGone)
		if did != n {
			t.Errorf("%d calls with the budget %d", did, n)
		}
	}
}

// P7.3: one writing call, whichever it is, uses up a budget of 1.
func TestBudgetOne(t *testing.T) {
	for i, call := range []func(*Disk) api.Errno{
		func(d *Disk) api.Errno { return d.Append("a", "z") },
		func(d *Disk) api.Errno { return d.Append("a", "") },
		func(d *Disk) api.Errno { return d.Append("new", "z") },
		func(d *Disk) api.Errno { return d.Append("new", "") },
		func(d *Disk) api.Errno { return d.Sync("a") },
		func(d *Disk) api.Errno { return d.Sync("b") },
		func(d *Disk) api.Errno { return d.Rename("a", "new") },
		func(d *Disk) api.Errno { return d.Rename("a", "b") },
		func(d *Disk) api.Errno { return d.Rename("a", "a") },
		func(d *Disk) api.Errno { return d.Remove("a") },
	} {
		d := filled(t, entry{"a", "x", "y"}, entry{"b", "z", ""})
		d.Budget(1)
		tells(t, "call "+strconv.Itoa(i), call(d), api.OK)
		for range 3 {
			tells(t, "Append behind call "+strconv.Itoa(i), d.Append("b", "1"), api.ErrGone)
		}
	}
}

// P7.3: below 0, the power never fails; nor does it for a long time with a great number.
func TestBudgetNever(t *testing.T) {
	for _, n := range []int{-1, -2, -7, math.MinInt32, math.MinInt, math.MaxInt, math.MaxInt32} {
		d := New()
		d.Budget(n)
		for range 1000 {
			tells(t, "Append", d.Append("a", "x"), api.OK)
		}
		holds(t, d, entry{name: "a", rest: strings.Repeat("x", 1000)})
	}
}

// P7.3: the last Budget is what counts, from its call on, also when the power had failed.
func TestBudgetAgain(t *testing.T) {
	d := New()
	for _, n := range []int{5, 0, 3, 1, 0, 0, 2} {
		d.Budget(n + 50)
		d.Append("a", "")
		d.Budget(n)
		if got := left(t, d); got != n {
			t.Errorf("%d writing calls are left of %d", got, n)
		}
	}
	d.Budget(-1)
	if got := left(t, d); got != 100 {
		t.Errorf("%d writing calls are left of any number", got)
	}
	d.Budget(0)
	tells(t, "Append", d.Append("a", ""), api.ErrGone)
}

// P7.3: reading, and a crash, work when the power has failed, and the other disk's power never fails.
func TestReadGone(t *testing.T) {
	d := filled(t, entry{"a", "x", "y"}, entry{"b", "z", ""})
	d.Budget(1)
	tells(t, "Append", d.Append("a", "w"), api.OK)
	tells(t, "Append", d.Append("a", "v"), api.ErrGone)
	holds(t, d, entry{"a", "x", "yw"}, entry{"b", "z", ""})
	x := d.Crash([]int{1})
	holds(t, x, entry{"a", "xy", ""}, entry{"b", "z", ""})
	for range 1000 {
		tells(t, "Append behind a crash", x.Append("a", ""), api.OK)
	}
	tells(t, "Append", d.Append("a", "v"), api.ErrGone)
	holds(t, d, entry{"a", "x", "yw"}, entry{"b", "z", ""})
}

// P7.4: a disk that a crash returned has a power that never fails, whatever is left of the other one's budget.
func TestCrashPower(t *testing.T) {
	for _, n := range []int{0, 1, 2, -1} {
		d := filled(t, entry{"a", "x", "y"})
		d.Budget(n)
		for _, x := range []*Disk{d.Crash(nil), d.Crash([]int{1}), d.Crash(nil).Crash(nil)} {
			if got := left(t, x); got != 100 {
				t.Errorf("%d writing calls are left behind a crash", got)
			}
		}
		if got := left(t, d); n >= 0 && got != n {
			t.Errorf("%d writing calls are left of %d", got, n)
		}
	}
}

// P7.4: each pick is for one file that is not completely durable, in the order of the names.
func TestCrash(t *testing.T) {
	// Created in another order than that of the names.
	l := []entry{{"c", "s", ""}, {"z", "", "789"}, {"b", "", "12"}, {"B", "", ""}, {"a", "xyz", "uv"}}
	for _, c := range []struct {
		picks   []int
		a, b, z string
	}{
		{nil, "xyz", "", ""},
		{[]int{}, "xyz", "", ""},
		{[]int{0, 0, 0}, "xyz", "", ""},
		{[]int{1}, "xyzu", "", ""},
		{[]int{0, 1}, "xyz", "1", ""},
		{[]int{0, 0, 1}, "xyz", "", "7"},
		{[]int{1, 1, 1}, "xyzu", "1", "7"},
		{[]int{2, 2, 2}, "xyzuv", "12", "78"},
		{[]int{3, 3, 3}, "xyz", "", "789"},
		{[]int{4, 4, 4}, "xyzu", "1", ""},
		{[]int{5, 5, 5}, "xyzuv", "12", "7"},
		{[]int{2, 2, 3, 1, 1, 1}, "xyzuv", "12", "789"},
		{[]int{-1, -1, -1}, "xyzuv", "12", "789"},
		{[]int{-2, -2, -2}, "xyzu", "1", "78"},
		{[]int{-3, -3, -3}, "xyz", "", "7"},
		{[]int{-4, -4, -4}, "xyzuv", "12", ""},
		{[]int{-12, -12, -12}, "xyz", "", ""},
		{[]int{3e9, 3e9 + 1, 4e9 + 3}, "xyz", "1", "789"},
		{[]int{-3e9, -3e9 - 1, -4e9 - 1}, "xyz", "12", "789"},
		{[]int{math.MaxInt, math.MaxInt, math.MaxInt}, "xyzu", "1", "789"}, // 2^63 - 1 is 1 more than a multiple of 3, and 3 more than one of 4
		{[]int{math.MinInt, math.MinInt, math.MinInt}, "xyzu", "1", ""},    // -2^63 is 1 more than a multiple of 3, and one of 4
	} {
		d := filled(t, l...)
		before := slices.Clone(c.picks)
		x := d.Crash(c.picks)
		holds(t, x, entry{name: "B"}, entry{name: "a", sure: c.a}, entry{name: "b", sure: c.b}, entry{name: "c", sure: "s"}, entry{name: "z", sure: c.z})
		holds(t, d, l...)
		if !slices.Equal(c.picks, before) {
			t.Errorf("the picks %d became %d", before, c.picks)
		}
	}
}

// P7.4: how many bytes a file has, for every number of them that there may be, and many picks.
func TestCrashSizes(t *testing.T) {
	text := "abcdefghijklmnopqrstuvwxyz"
	for sure := range 5 {
		for rest := range 7 {
			d := filled(t, entry{"a", text[:sure], text[sure : sure+rest]})
			for pick := -30; pick <= 30; pick++ {
				size := pick
				for size < 0 {
					size += rest + 1
				}
				for size > rest {
					size -= rest + 1
				}
				if got, why := d.Crash([]int{pick, 1}).Read("a"); got != text[:sure+size] || why != api.OK {
					t.Fatalf("%d durable bytes and %d others with the pick %d: %q, error %d", sure, rest, pick, got, why)
				}
			}
		}
	}
}

// P7.4: files that are completely durable, or have no bytes, take no pick.
func TestCrashDurable(t *testing.T) {
	l := []entry{{"a", "1", ""}, {"b", "", ""}, {"c", "", "23"}, {"d", "4", ""}, {"e", "", ""}, {"f", "5", "67"}, {"g", "8", ""}}
	d := filled(t, l...)
	holds(t, d.Crash([]int{1, 2}), entry{"a", "1", ""}, entry{"b", "", ""}, entry{"c", "2", ""}, entry{"d", "4", ""}, entry{"e", "", ""}, entry{"f", "567", ""}, entry{"g", "8", ""})
	d.Sync("c")
	holds(t, d.Crash([]int{1, 2}), entry{"a", "1", ""}, entry{"b", "", ""}, entry{"c", "23", ""}, entry{"d", "4", ""}, entry{"e", "", ""}, entry{"f", "56", ""}, entry{"g", "8", ""})
	d.Sync("f")
	holds(t, d.Crash([]int{1, 2}), entry{"a", "1", ""}, entry{"b", "", ""}, entry{"c", "23", ""}, entry{"d", "4", ""}, entry{"e", "", ""}, entry{"f", "567", ""}, entry{"g", "8", ""})
}

// P7.4: behind a crash all is durable, so that another crash loses nothing; what is appended then is not.
func TestCrashTwice(t *testing.T) {
	d := filled(t, entry{"a", "x", "yz"}, entry{"b", "", "12"})
	x := d.Crash([]int{1, 2})
	holds(t, x, entry{"a", "xy", ""}, entry{"b", "12", ""})
	for _, picks := range [][]int{nil, {1, 2}, {-1}} {
		holds(t, x.Crash(picks), entry{"a", "xy", ""}, entry{"b", "12", ""})
	}
	x.Append("a", "uv")
	holds(t, x, entry{"a", "xy", "uv"}, entry{"b", "12", ""})
	holds(t, x.Crash([]int{1}), entry{"a", "xyu", ""}, entry{"b", "12", ""})
}

// P7.4: a crash leaves the disk, and the two are apart: whatever is written on one of them, the other has what it had.
func TestCrashApart(t *testing.T) {
	l := []entry{{"a", "x", "yzw"}, {"b", "12", ""}, {"c", "", ""}}
	after := []entry{{"a", "xy", ""}, {"b", "12", ""}, {"c", "", ""}}
	for _, swap := range []bool{false, true} {
		for i, call := range []func(*Disk){
			func(d *Disk) { d.Append("a", "123456789") },
			func(d *Disk) { d.Append("a", "1") },
			func(d *Disk) { d.Append("b", "3") },
			func(d *Disk) { d.Append("c", "4") },
			func(d *Disk) { d.Append("new", "4") },
			func(d *Disk) { d.Sync("a") },
			func(d *Disk) { d.Rename("a", "b") },
			func(d *Disk) { d.Rename("a", "d") },
			func(d *Disk) { d.Remove("a") },
			func(d *Disk) { d.Budget(0) },
			func(d *Disk) { d.Crash([]int{2, 2}) },
		} {
			d := filled(t, l...)
			x := d.Crash([]int{1})
			if x == d {
				t.Fatal("a crash returns the disk itself")
			}
			one, other, want := d, x, after
			if swap {
				one, other, want = x, d, l
			}
			call(one)
			holds(t, other, want...)
			tells(t, "Append on the other disk, call "+strconv.Itoa(i), other.Append("a", "0"), api.OK)
			want = slices.Clone(want)
			want[0].rest += "0"
			holds(t, other, want...)
		}
	}
}

// P7.4: bytes that a crash lost are not overwritten by what is appended in their place, nor the other way round.
func TestCrashBranches(t *testing.T) {
	d := filled(t, entry{"a", "x", "yz"})
	var l []*Disk
	for pick := range 3 {
		x := d.Crash([]int{pick})
		x.Append("a", "-"+strconv.Itoa(pick))
		l = append(l, x, x.Crash([]int{1}))
	}
	d.Append("a", "w")
	for i, want := range []string{"x-0", "x-", "xy-1", "xy-", "xyz-2", "xyz-"} {
		if got, _ := l[i].Read("a"); got != want {
			t.Errorf("disk %d has %q, want %q", i, got, want)
		}
	}
	holds(t, d, entry{"a", "x", "yzw"})
}

// The examples of the chapter.
func TestExamples(t *testing.T) {
	d := New()
	tells(t, "Append", d.Append("a", "xyz"), api.OK)
	tells(t, "Sync", d.Sync("a"), api.OK)
	tells(t, "Append", d.Append("a", "uv"), api.OK)
	bears(t, d.Crash([]int{1}), entry{name: "a", sure: "xyzu"})
	bears(t, d.Crash([]int{5}), entry{name: "a", sure: "xyzuv"})
	bears(t, d.Crash(nil), entry{name: "a", sure: "xyz"})
}

// R3: results that are written into change neither the disk nor another result; nor do bytes or picks that were passed.
func TestApart(t *testing.T) {
	name, data, picks := []byte("ab"), []byte("xyz"), []int{1, 1}
	d := New()
	d.Append(string(name), string(data))
	d.Append("c", "12")
	x := d.Crash(picks)
	copy(name, "__")
	copy(data, "___")
	copy(picks, []int{7, 7})
	holds(t, d, entry{"ab", "", "xyz"}, entry{"c", "", "12"})
	holds(t, x, entry{"ab", "x", ""}, entry{"c", "1", ""})
	one, other := d.Names(), d.Names()
	clear(one)
	_ = append(one[:0], "z", "z")
	if !slices.Equal(other, []string{"ab", "c"}) || !slices.Equal(d.Names(), other) {
		t.Error("two results of Names are one")
	}
	read, _ := d.Read("ab")
	d.Append("ab", "w")
	d.Remove("c")
	if read != "xyz" || !slices.Equal(other, []string{"ab", "c"}) {
		t.Error("a result changes with the disk")
	}
}

// model is what a disk should be, told in another way: its files, ascending, and the writing calls until the power fails, or none that matters.
type model struct {
	files  []entry
	counts bool
	left   int
}

// find is the index of the file with a name, and whether there is one.
func (m *model) find(name string) (int, bool) {
	return slices.BinarySearchFunc(m.files, name, func(e entry, name string) int { return strings.Compare(e.name, name) })
}

// write does one writing call: 0 is Append, 1 Sync, 2 Rename, 3 Remove.
func (m *model) write(kind int, name, text string) api.Errno {
	at, is := m.find(name)
	switch {
	case name == "" || kind == 2 && text == "":
		return api.ErrArg
	case kind != 0 && !is:
		return api.ErrNone
	case m.counts && m.left <= 0:
		return api.ErrGone
	}
	m.left--
	if !is {
		m.files = slices.Insert(m.files, at, entry{name: name})
	}
	e := &m.files[at]
	switch kind {
	case 0:
		e.rest += text
	case 1:
		e.sure, e.rest = e.sure+e.rest, ""
	case 2:
		was := *e
		if i, ok := m.find(text); ok && i != at {
			m.files[i] = entry{text, was.sure, was.rest}
			m.files = slices.Delete(m.files, at, at+1)
		} else if !ok {
			m.files = slices.Delete(m.files, at, at+1)
			i, _ = m.find(text)
			m.files = slices.Insert(m.files, i, entry{text, was.sure, was.rest})
		}
	case 3:
		m.files = slices.Delete(m.files, at, at+1)
	}
	return api.OK
}

// crash is what there should be behind a crash.
func (m *model) crash(picks []int) *model {
	other := &model{}
	for _, e := range m.files {
		if n := len(e.rest); n > 0 {
			pick := 0
			if len(picks) > 0 {
				pick, picks = picks[0], picks[1:]
			}
			e.sure += e.rest[:((pick%(n+1))+n+1)%(n+1)]
		}
		other.files = append(other.files, entry{name: e.name, sure: e.sure})
	}
	return other
}

// write does the call on the disk that a model's write does.
func write(d *Disk, kind int, name, text string) api.Errno {
	switch kind {
	case 0:
		return d.Append(name, text)
	case 1:
		return d.Sync(name)
	case 2:
		return d.Rename(name, text)
	default:
		return d.Remove(name)
	}
}

// step is a writing call as a model's write takes it, or one of Budget with a number, whose kind is 4.
type step struct {
	kind       int
	name, text string
	n          int
}

// both does a step on a disk and on its model, and ends the test if their errors differ.
func both(t *testing.T, d *Disk, m *model, s step) {
	t.Helper()
	if s.kind == 4 {
		d.Budget(s.n)
		m.counts, m.left = s.n >= 0, s.n
		return
	}
	want := m.write(s.kind, s.name, s.text)
	if got := write(d, s.kind, s.name, s.text); got != want {
		t.Fatalf("%v: error %d, want %d", s, got, want)
	}
}

// P7.1 to P7.4: all sequences of four calls, against the model.
func TestShortSequences(t *testing.T) {
	steps := []step{
		{kind: 0, name: "a", text: "xy"}, {kind: 0, name: "a"}, {kind: 0, name: "b", text: "1"}, {kind: 0, name: "", text: "x"},
		{kind: 1, name: "a"}, {kind: 1, name: "b"},
		{kind: 2, name: "a", text: "b"}, {kind: 2, name: "b", text: "a"}, {kind: 2, name: "a", text: "a"}, {kind: 2, name: "a"},
		{kind: 3, name: "a"}, {kind: 3, name: "b"},
		{kind: 4, n: 0}, {kind: 4, n: 1}, {kind: 4, n: -1},
	}
	n := len(steps)
	for i := range n * n * n * n {
		d, m := New(), &model{}
		for _, at := range []int{i / n / n / n, i / n / n % n, i / n % n, i % n} {
			both(t, d, m, steps[at])
		}
		holds(t, d, m.files...)
	}
}

// P7.1 to P7.4: long sequences of calls on a disk and on disks behind its crashes, each against its model.
func TestLongSequences(t *testing.T) {
	r := rand.New(rand.NewSource(2))
	names := []string{"", "a", "a.new", "b", "\x00", "\xff", "é"}
	texts := []string{"", "x", "yz", "\x00\xff", "0123456789"}
	for range 300 {
		disks, models := []*Disk{New()}, []*model{{}}
		for range 80 {
			i := r.Intn(len(disks))
			s := step{kind: r.Intn(6), name: names[r.Intn(len(names))], text: texts[r.Intn(len(texts))], n: r.Intn(30) - 5}
			switch {
			case s.kind == 2:
				s.text = names[r.Intn(len(names))]
				both(t, disks[i], models[i], s)
			case s.kind < 4 || s.kind == 4 && r.Intn(4) == 0:
				both(t, disks[i], models[i], s)
			case s.kind == 5:
				picks := []int{r.Intn(40) - 20, r.Intn(40) - 20, r.Int(), -r.Int()}[:r.Intn(5)]
				disks = append(disks, disks[i].Crash(picks))
				models = append(models, models[i].crash(picks))
			}
			for j, d := range disks {
				bears(t, d, models[j].files...)
			}
		}
		for j, d := range disks {
			holds(t, d, models[j].files...)
		}
	}
}

// R1: arbitrary bytes as names and as bytes, in calls that other bytes tell, and arbitrary picks.
func FuzzDisk(f *testing.F) {
	f.Add("a b", "xyz uv", " ", []byte{0, 1, 0, 7, 14}, 1, -1)
	f.Add("", "", "", []byte{0, 1, 2, 3, 4, 5}, 0, math.MinInt)
	f.Add("\x00\xff", "\xff", "\xff", []byte{0, 20, 40, 60, 80, 5, 10, 15, 20}, math.MaxInt, 3)
	f.Fuzz(func(t *testing.T, names, texts, cut string, told []byte, first, second int) {
		d, m := New(), &model{}
		l, data := append(strings.Split(names, cut), "a"), append(strings.Split(texts, cut), "xy")
		for i, b := range told[:min(len(told), 60)] {
			s := step{kind: int(b) % 5, name: l[int(b)/5%len(l)], text: data[i%len(data)], n: int(int8(b))}
			if s.kind == 2 {
				s.text = l[i%len(l)]
			}
			if s.name == "a name that no file has" || s.text == "a name that no file has" {
				return
			}
			both(t, d, m, s)
			holds(t, d, m.files...)
			holds(t, d.Crash([]int{first, second}), m.crash([]int{first, second}).files...)
		}
	})
}
