package journal

import (
	"crypto/sha256"
	"encoding/binary"
	"math"
	"math/rand"
	"slices"
	"strconv"
	"strings"
	"testing"

	"bloomery/api"
	"bloomery/disk"
)

// most is how many bytes a record may have.
const most = 1048576

// long is one byte too long for a record.
var long = strings.Repeat("x", most+1)

// framed is a record's frame told in another way, and what would be one of a text that is too long.
func framed(rec string) string {
	length := binary.BigEndian.AppendUint32(nil, uint32(len(rec)))
	sum := sha256.Sum256(append(slices.Clone(length), rec...))
	return string(length) + string(sum[:8]) + rec
}

// frames are those of some records, one behind the other.
func frames(recs ...string) string {
	var b strings.Builder
	for _, r := range recs {
		b.WriteString(framed(r))
	}
	return b.String()
}

// scanned is what Scan has to return, told in another way: a front of b is whole frames if framing its records makes it again.
func scanned(b string) ([]string, int) {
	var recs []string
	rest := b
	for len(rest) >= 12 {
		n := int64(binary.BigEndian.Uint32([]byte(rest[:4])))
		if n > most || 12+n > int64(len(rest)) || framed(rest[12:12+n]) != rest[:12+n] {
			break
		}
		recs = append(recs, rest[12:12+n])
		rest = rest[12+n:]
	}
	return recs, len(b) - len(rest)
}

// ordinary are records of many kinds, among them the empty one, such as have other frames in them, and some of which one is the start of another.
func ordinary() []string {
	var all strings.Builder
	for i := range 256 {
		all.WriteByte(byte(i))
	}
	return []string{
		"", "a", "abc", "ab", "\x00", "\x00\x00\x00\x00", "\xff\xfe", "é", "\n", " ", "log.new", "4:blob1:x",
		all.String(), frames("", "a"), framed("abc")[:13], strings.Repeat("x", 255), strings.Repeat("x", 256), strings.Repeat("\x00", 70000), "abc", "",
	}
}

// rests are bytes that are no frame, nor begin with one.
func rests() []string {
	return []string{
		"x", "\x00", strings.Repeat("\x00", 11), strings.Repeat("\x00", 12), strings.Repeat("\x00", 100), strings.Repeat("\xff", 30), "\x00\x00\x00\x05garbage",
		framed("")[:11], framed("abc")[:12], framed("abc")[:14], "x" + framed("abc"), bent(framed("abc"), 14), bent(framed("abc"), 4) + framed("abc"), framed(long),
	}
}

// bent is b with another byte at i.
func bent(b string, i int) string {
	c := []byte(b)
	c[i]++
	return string(c)
}

// entry is a file: its name, its durable bytes, and its other ones.
type entry struct{ name, sure, rest string }

// filled is a new disk with these files.
func filled(t *testing.T, l ...entry) *disk.Disk {
	t.Helper()
	d := disk.New()
	for _, e := range l {
		put(t, d, e)
	}
	return d
}

// put lays a file on a disk.
func put(t *testing.T, d *disk.Disk, e entry) {
	t.Helper()
	tells(t, "Append", d.Append(e.name, e.sure), api.OK)
	tells(t, "Sync", d.Sync(e.name), api.OK)
	tells(t, "Append", d.Append(e.name, e.rest), api.OK)
}

// files are a disk's, in the order of their names.
func files(d *disk.Disk) []entry {
	var l []entry
	x := d.Crash(nil)
	for _, name := range d.Names() {
		all, _ := d.Read(name)
		sure, _ := x.Read(name)
		l = append(l, entry{name, sure, all[len(sure):]})
	}
	return l
}

// holds ends the test if a disk's files are not these, in the order of their names, what is durable of them included.
func holds(t *testing.T, d *disk.Disk, l ...entry) {
	t.Helper()
	if got := files(d); !slices.Equal(got, l) {
		t.Fatalf("the disk has %.600q, want %.600q", got, l)
	}
}

// tells ends the test if a call returned another error than it should.
func tells(t *testing.T, call string, got, want api.Errno) {
	t.Helper()
	if got != want {
		t.Fatalf("%s: error %d, want %d", call, got, want)
	}
}

// opened is the journal of a name, whose records have to be these.
func opened(t *testing.T, d *disk.Disk, name string, recs ...string) *Journal {
	t.Helper()
	j, got, why := Open(d, name)
	if j == nil || why != api.OK || !slices.Equal(got, recs) {
		t.Fatalf("Open of %.100q: %t, %.600q, error %d, want %.600q", name, j != nil, got, why, recs)
	}
	return j
}

// refused ends the test if a journal can be opened, or if that has another error than it should.
func refused(t *testing.T, d *disk.Disk, name string, want api.Errno) {
	t.Helper()
	if j, recs, why := Open(d, name); j != nil || len(recs) != 0 || why != want {
		t.Fatalf("Open of %.100q: %t, %.600q, error %d, want %d", name, j != nil, recs, why, want)
	}
}

// spent is how many writing calls of a disk something does. The power of the disk never fails behind it.
func spent(d *disk.Disk, do func()) int {
	const many = 1000
	d.Budget(many)
	do()
	left := 0
	for d.Append("count", "") == api.OK {
		left++
	}
	d.Budget(-1)
	if left > 0 {
		d.Remove("count")
	}
	return many - left
}

// spends ends the test if something does another number of writing calls than it should.
func spends(t *testing.T, d *disk.Disk, want int, do func()) {
	t.Helper()
	if got := spent(d, do); got != want {
		t.Fatalf("%d writing calls, want %d", got, want)
	}
}

// dead ends the test if a journal is not broken, or if something comes of its calls, as soon as its disk has power again as well.
func dead(t *testing.T, d *disk.Disk, j *Journal) {
	t.Helper()
	was := files(d)
	for range 3 {
		d.Budget(-1)
		spends(t, d, 0, func() {
			tells(t, "Add of a broken journal", j.Add("x"), api.ErrState)
			tells(t, "Add of too much to a broken journal", j.Add(long), api.ErrState)
			tells(t, "Swap of a broken journal", j.Swap([]string{"x"}), api.ErrState)
			tells(t, "Swap of a broken journal to none", j.Swap(nil), api.ErrState)
			tells(t, "Swap of a broken journal to too much", j.Swap([]string{long}), api.ErrState)
		})
		d.Budget(0)
		tells(t, "Add of a broken journal without power", j.Add("x"), api.ErrState)
		tells(t, "Swap of a broken journal without power", j.Swap(nil), api.ErrState)
	}
	holds(t, d, was...)
	d.Budget(-1)
}

// crashed calls see with what may be left of a disk behind a crash, for all that its first file with bytes that are not durable can have of them.
func crashed(d *disk.Disk, see func(x *disk.Disk)) {
	n := 0
	for _, e := range files(d) {
		if n = len(e.rest); n > 0 {
			break
		}
	}
	for pick := range min(n, 300) + 1 {
		see(d.Crash([]int{pick}))
		see(d.Crash([]int{pick - 3*(n+1), math.MaxInt}))
	}
	see(d.Crash([]int{n, -1}))
}

// The example of the chapter.
func TestExample(t *testing.T) {
	b, why := Frame("")
	if why != api.OK || len(b) != 12 || b[:4] != "\x00\x00\x00\x00" {
		t.Errorf("Frame of the empty record: %q, %d", b, why)
	}
}

// P8.1: frames whose bytes are known.
func TestFrameKnown(t *testing.T) {
	for rec, want := range map[string]string{
		"":                        "\x00\x00\x00\x00\xdf\x3f\x61\x98\x04\xa9\x2f\xdb",
		"a":                       "\x00\x00\x00\x01\x72\xff\x6b\x02\x94\x9d\xad\x95a",
		"abc":                     "\x00\x00\x00\x03\xd0\x4b\x72\xa6\x50\xce\x0f\x8cabc",
		strings.Repeat("x", 258):  "\x00\x00\x01\x02\x92\x2d\x75\x65\x9d\xfa\xf2\x71" + strings.Repeat("x", 258),
		strings.Repeat("x", most): "\x00\x10\x00\x00\x4f\x66\x7d\xd8\x1c\x63\x89\xe3" + strings.Repeat("x", most),
	} {
		if got, why := Frame(rec); got != want || why != api.OK {
			t.Errorf("Frame of %d bytes: %.20q, %d, want %.20q", len(rec), got, why, want)
		}
	}
}

// P8.1: the frames of records of any bytes and of any length up to the longest, each of which Scan takes as one.
func TestFrame(t *testing.T) {
	l := ordinary()
	for n := range 300 {
		l = append(l, strings.Repeat("\xa5", n))
	}
	for _, n := range []int{65535, 65536, 65537, 1<<17 + 1, most - 1, most} {
		l = append(l, strings.Repeat("y", n-1)+"z")
	}
	for _, rec := range l {
		got, why := Frame(rec)
		if got != framed(rec) || why != api.OK {
			t.Fatalf("Frame of %d bytes: %.20q, %d", len(rec), got, why)
		}
		if recs, n := Scan(got); !slices.Equal(recs, []string{rec}) || n != len(rec)+12 {
			t.Fatalf("Scan of a frame of %d bytes: %d records, %d bytes", len(rec), len(recs), n)
		}
	}
}

// P8.1: what is no record has no frame.
func TestFrameLimit(t *testing.T) {
	for _, n := range []int{most + 1, most + 2, 2 * most, 1 << 24, 1<<24 + 1} {
		if got, why := Frame(strings.Repeat("\x00", n)); got != "" || why != api.ErrLimit {
			t.Errorf("Frame of %d bytes: %d bytes, %d", n, len(got), why)
		}
	}
}

// P8.1: Scan takes as many frames as there are, with any records.
func TestScan(t *testing.T) {
	l := ordinary()
	for i := range l {
		b := frames(l[:i]...)
		for _, rest := range append(rests(), "") {
			recs, n := Scan(b + rest)
			if n != len(b) || !slices.Equal(recs, l[:i]) {
				t.Fatalf("Scan of %d frames and %.40q: %d records, %d bytes of %d", i, rest, len(recs), n, len(b))
			}
		}
	}
	b := strings.Repeat(framed(""), 10000)
	if recs, n := Scan(b); len(recs) != 10000 || n != len(b) {
		t.Errorf("Scan of 10000 frames: %d records, %d bytes", len(recs), n)
	}
}

// P8.1: of frames that are cut off at each of their bytes, Scan takes the whole ones.
func TestScanCut(t *testing.T) {
	recs := []string{"ab", "", "", framed("in it"), strings.Repeat("x", 300), "\x00", ""}
	b := frames(recs...)
	for i := range len(b) + 1 {
		want, size := 0, 0
		for want < len(recs) && size+12+len(recs[want]) <= i {
			size += 12 + len(recs[want])
			want++
		}
		if got, n := Scan(b[:i]); n != size || !slices.Equal(got, recs[:want]) {
			t.Fatalf("Scan of the first %d bytes: %.200q, %d, want %.200q, %d", i, got, n, recs[:want], size)
		}
	}
}

// P8.1: with another byte in a frame's length, digest or record, Scan takes the frames ahead of it, and none behind it.
func TestScanBent(t *testing.T) {
	recs := []string{"ab", "", "xyz", "\x00"}
	b := frames(recs...)
	for i := range b {
		whole := 0
		for len(frames(recs[:whole+1]...)) <= i {
			whole++
		}
		for add := 1; add < 256; add++ {
			c := []byte(b)
			c[i] += byte(add)
			got, n := Scan(string(c))
			if n != len(frames(recs[:whole]...)) || !slices.Equal(got, recs[:whole]) {
				t.Fatalf("Scan with byte %d changed by %d: %q, %d", i, add, got, n)
			}
		}
	}
}

// P8.1: a digest of something else, other bytes of it, or a length in another form make no frame.
func TestScanForms(t *testing.T) {
	rec := "abc"
	size := "\x00\x00\x00\x03"
	whole, alone := sha256.Sum256([]byte(size+rec)), sha256.Sum256([]byte(rec))
	behind, turned := sha256.Sum256([]byte(rec+size)), sha256.Sum256([]byte("\x03\x00\x00\x00"+rec))
	for i, b := range []string{
		size + string(whole[:7]) + "\x00" + rec,
		size + string(whole[24:]) + rec,
		size + string(whole[8:16]) + rec,
		size + string(alone[:8]) + rec,
		size + string(behind[:8]) + rec,
		size + string(turned[:8]) + rec,
		"\x03\x00\x00\x00" + string(turned[:8]) + rec,
		"\x03\x00\x00\x00" + string(whole[:8]) + rec,
		string(whole[:8]) + size + rec,
		size + rec + string(whole[:8]),
		size + string(whole[:]) + rec,
		"0003" + string(whole[:8]) + rec,
		"3:" + rec,
	} {
		if recs, n := Scan(b + framed("z")); n != 0 || len(recs) != 0 {
			t.Errorf("Scan of form %d: %q, %d", i, recs, n)
		}
	}
	// The length tells where a record ends, whatever follows.
	if recs, n := Scan(framed("ab") + rec); n != 14 || !slices.Equal(recs, []string{"ab"}) {
		t.Errorf("Scan of a frame with a rest: %q, %d", recs, n)
	}
}

// P8.1: what is too long for a record is in no frame, though its digest is right; a length may be any number.
func TestScanLong(t *testing.T) {
	longest := long[1:]
	b := frames("a", longest)
	if recs, n := Scan(b + framed("z")); !slices.Equal(recs, []string{"a", longest, "z"}) || n != len(b)+13 {
		t.Errorf("Scan with the longest record: %d records, %d bytes", len(recs), n)
	}
	for _, extra := range []int{1, 2, most, 15 * most} {
		c := frames("a", longest+strings.Repeat("x", extra), "z")
		if recs, n := Scan(c); !slices.Equal(recs, []string{"a"}) || n != 13 {
			t.Errorf("Scan with %d bytes too many: %d records, %d bytes", extra, len(recs), n)
		}
	}
	for _, size := range []uint32{1, 2, most, most + 1, 1 << 24, math.MaxInt32, 1 << 31, math.MaxUint32 - 12, math.MaxUint32 - 11, math.MaxUint32} {
		length := string(binary.BigEndian.AppendUint32(nil, size))
		sum := sha256.Sum256([]byte(length))
		for _, c := range []string{length, length + string(sum[:8]), length + strings.Repeat("\x00", 8)} {
			if recs, n := Scan(framed("a") + c); !slices.Equal(recs, []string{"a"}) || n != 13 {
				t.Errorf("Scan with the length %d: %d records, %d bytes", size, len(recs), n)
			}
		}
	}
}

// P8.1: Scan of frames with any change anywhere, against what it has to return told in another way.
func TestScanAny(t *testing.T) {
	r := rand.New(rand.NewSource(3))
	for range 20000 {
		var b []byte
		for range r.Intn(4) {
			b = append(b, framed(strings.Repeat("\x00x"[r.Intn(2):][:1], r.Intn(4)*r.Intn(4)))...)
		}
		for range r.Intn(3) {
			if len(b) > 0 {
				i := r.Intn(len(b))
				b = slices.Concat(b[:i], [][]byte{{byte(r.Intn(256))}, nil, {0}}[r.Intn(3)], b[min(i+r.Intn(3), len(b)):])
			}
		}
		recs, n := Scan(string(b))
		want, size := scanned(string(b))
		if n != size || !slices.Equal(recs, want) {
			t.Fatalf("Scan of %q: %q, %d, want %q, %d", b, recs, n, want, size)
		}
	}
}

// R3: results that are written into change nothing.
func TestScanApart(t *testing.T) {
	b := []byte(frames("a", "b", "c"))
	one, _ := Scan(string(b))
	other, _ := Scan(string(b))
	clear(b)
	clear(one)
	_ = append(one[:0], "z", "z")
	if !slices.Equal(other, []string{"a", "b", "c"}) {
		t.Errorf("another result became %q", other)
	}
}

// P8.1: a file that does not exist is not created: nothing is written, so that no power is needed.
func TestOpenNone(t *testing.T) {
	for _, n := range []int{-1, 0, 1} {
		d := disk.New()
		d.Budget(n)
		opened(t, d, "log")
		opened(t, d, "log")
		holds(t, d)
	}
	d := filled(t, entry{"lo", "1", "2"}, entry{"log.ne", "3", "4"}, entry{"log.new.new", "5", "6"}, entry{"logs", framed("a"), ""})
	was := files(d)
	d.Budget(0)
	opened(t, d, "log")
	holds(t, d, was...)
}

// P8.1: a file of frames alone stays as it is, durable or not: nothing is written.
func TestOpenWhole(t *testing.T) {
	for _, recs := range [][]string{nil, {""}, {"a"}, {"", "", ""}, {"ab", "", "xyz"}, ordinary(), {strings.Repeat("x", most), "y"}} {
		b := frames(recs...)
		for _, sure := range []int{0, len(b) / 2, len(b)} {
			e := entry{"log", b[:sure], b[sure:]}
			d := filled(t, e)
			d.Budget(0)
			for range 3 {
				opened(t, d, "log", recs...)
			}
			holds(t, d, e)
		}
	}
}

// P8.1: what is behind the last whole frame is cut off, and the frames are durable then.
func TestOpenRest(t *testing.T) {
	for _, recs := range [][]string{nil, {""}, {"a"}, {"ab", "", "xyz"}} {
		b := frames(recs...)
		for _, rest := range rests() {
			all := b + rest
			for _, sure := range []int{0, len(b) / 2, len(b), len(b) + 1, len(all)} {
				d := filled(t, entry{"log", all[:sure], all[sure:]}, entry{"z", "1", "2"})
				spends(t, d, 3, func() { opened(t, d, "log", recs...) })
				holds(t, d, entry{"log", b, ""}, entry{"z", "1", "2"})
				d.Budget(0)
				opened(t, d, "log", recs...)
				holds(t, d, entry{"log", b, ""}, entry{"z", "1", "2"})
			}
		}
	}
}

// P8.1: the other file is removed, whatever it has; its records are none of the journal.
func TestOpenOther(t *testing.T) {
	for _, other := range []entry{{"log.new", "", ""}, {"log.new", frames("new"), ""}, {"log.new", "", frames("new")}, {"log.new", "garbage", "x"}} {
		d := filled(t, other)
		spends(t, d, 1, func() { opened(t, d, "log") })
		holds(t, d)

		d = filled(t, entry{"log", frames("a"), frames("b")}, other)
		spends(t, d, 1, func() { opened(t, d, "log", "a", "b") })
		holds(t, d, entry{"log", frames("a"), frames("b")})

		d = filled(t, entry{"log", frames("a"), frames("b") + "rest"}, other, entry{"log.new.new", "1", "2"})
		spends(t, d, 4, func() { opened(t, d, "log", "a", "b") })
		holds(t, d, entry{"log", frames("a", "b"), ""}, entry{"log.new.new", "1", "2"})
	}
}

// P8.1: a journal may have a name of any bytes but the empty one; only its file and its other file are touched.
func TestNames(t *testing.T) {
	for _, name := range []string{"a", ".", ".new", "a.new", "a/b", " ", "\x00", "\xff", "é", "A", strings.Repeat("x", 70000)} {
		others := []entry{{"\x01", "1", "2"}, {"log", "3", "4"}, {"new", framed("a"), "x"}}
		d := filled(t, append(others, entry{name + ".new", "5", "6"}, entry{name, frames("a"), "rest"})...)
		j := opened(t, d, name, "a")
		tells(t, "Add", j.Add("b"), api.OK)
		want := append(slices.Clone(others), entry{name, frames("a", "b"), ""})
		holds(t, d, sorted(want)...)
		tells(t, "Append", d.Append(name+".new", "7"), api.OK)
		tells(t, "Swap", j.Swap([]string{"c", "d"}), api.OK)
		want[3].sure = frames("c", "d")
		holds(t, d, sorted(want)...)
		opened(t, d, name, "c", "d")
		holds(t, d, sorted(want)...)
	}
}

// sorted are files in the order of their names.
func sorted(l []entry) []entry {
	return slices.SortedFunc(slices.Values(l), func(a, b entry) int { return strings.Compare(a.name, b.name) })
}

// P8.1: without a disk or a name there is no journal, and nothing is done, whether there is power or not.
func TestOpenArg(t *testing.T) {
	for _, name := range []string{"", "log", "\x00"} {
		refused(t, nil, name, api.ErrArg)
	}
	l := []entry{{".new", "1", "2"}, {"log", "x", "y"}, {"log.new", "3", "4"}}
	d := filled(t, l...)
	for _, n := range []int{-1, 0, 5} {
		d.Budget(n)
		refused(t, d, "", api.ErrArg)
		holds(t, d, l...)
	}
}

// P8.1: an Open with each number of writing calls ahead of the power's failure: what it returns, and what it leaves; and what a crash behind it leaves.
func TestOpenBudgets(t *testing.T) {
	good := frames("a", "", "bc")
	log, cut, other := entry{"log", good, "rest"}, entry{"log", good, ""}, entry{"log.new", "12", framed("old")}
	begun, copied := entry{"log.new", "", good}, entry{"log.new", good, ""}
	for _, steps := range [][][]entry{
		{{cut}},
		{{cut, other}, {cut}},
		{{log}, {log, begun}, {log, copied}, {cut}},
		{{log, other}, {log}, {log, begun}, {log, copied}, {cut}},
	} {
		last := len(steps) - 1
		for n := range last + 3 {
			d := filled(t, steps[0]...)
			d.Budget(n)
			if n < last {
				refused(t, d, "log", api.ErrGone)
			} else {
				opened(t, d, "log", "a", "", "bc")
			}
			holds(t, d, steps[min(n, last)]...)
			crashed(d, func(x *disk.Disk) {
				opened(t, x, "log", "a", "", "bc")
				holds(t, x, cut)
			})
			d.Budget(-1)
			opened(t, d, "log", "a", "", "bc")
			holds(t, d, cut)
		}
	}
}

// P8.1: an Open that fails where there are no frames, or no file.
func TestOpenBudgetsEmpty(t *testing.T) {
	log, empty, other := entry{"log", "", "rest"}, entry{"log", "", ""}, entry{"log.new", framed("a"), ""}
	for _, steps := range [][][]entry{
		{nil},
		{{other}, nil},
		{{empty}},
		{{log}, {log, {"log.new", "", ""}}, {log, {"log.new", "", ""}}, {empty}},
	} {
		last := len(steps) - 1
		for n := range last + 2 {
			d := filled(t, steps[0]...)
			d.Budget(n)
			if n < last {
				refused(t, d, "log", api.ErrGone)
			} else {
				opened(t, d, "log")
			}
			holds(t, d, steps[min(n, last)]...)
			crashed(d, func(x *disk.Disk) { opened(t, x, "log") })
		}
	}
}

// R3: records that Open returned and that are written into change neither the journal nor another result.
func TestOpenApart(t *testing.T) {
	d := filled(t, entry{"log", frames("a", "b"), ""})
	j, one, _ := Open(d, "log")
	_, other, _ := Open(d, "log")
	clear(one)
	_ = append(one[:0], "z", "z")
	if !slices.Equal(other, []string{"a", "b"}) {
		t.Errorf("another result became %q", other)
	}
	tells(t, "Add", j.Add("c"), api.OK)
	holds(t, d, entry{"log", frames("a", "b", "c"), ""})
}

// P8.1: Add puts a record behind the others and makes it durable, by two writing calls; the first one creates the file.
func TestAdd(t *testing.T) {
	d := disk.New()
	j := opened(t, d, "log")
	l := append(ordinary(), strings.Repeat("x", most), "z")
	for i, rec := range l {
		spends(t, d, 2, func() { tells(t, "Add", j.Add(rec), api.OK) })
		holds(t, d, entry{"log", frames(l[:i+1]...), ""})
	}
	opened(t, d, "log", l...)
	opened(t, d.Crash(nil), "log", l...)
	holds(t, d, entry{"log", frames(l...), ""})
}

// P8.1: Add makes durable what is there already, and leaves the other file alone.
func TestAddBehind(t *testing.T) {
	d := filled(t, entry{"log", frames("a")[:5], frames("a", "b")[5:]})
	j := opened(t, d, "log", "a", "b")
	tells(t, "Append", d.Append("log.new", "12"), api.OK)
	tells(t, "Add", j.Add("c"), api.OK)
	holds(t, d, entry{"log", frames("a", "b", "c"), ""}, entry{"log.new", "", "12"})
	opened(t, d, "log", "a", "b", "c")
}

// P8.1: what is too long for a record is refused, also without power: nothing is written, and the journal goes on.
func TestAddLimit(t *testing.T) {
	d := filled(t, entry{"log", frames("a"), ""}, entry{"log.new.new", "1", "2"})
	j := opened(t, d, "log", "a")
	was := files(d)
	for _, n := range []int{most + 1, most + 2, 1 << 24} {
		long := strings.Repeat("x", n)
		spends(t, d, 0, func() { tells(t, "Add of too much", j.Add(long), api.ErrLimit) })
		d.Budget(0)
		tells(t, "Add of too much without power", j.Add(long), api.ErrLimit)
		holds(t, d, was...)
		d.Budget(-1)
	}
	tells(t, "Add", j.Add(strings.Repeat("x", most)), api.OK)
	opened(t, d, "log", "a", strings.Repeat("x", most))
}

// P8.1, P8.2: an Add with each number of writing calls ahead of the power's failure, and crashes with any picks behind it.
func TestAddBudgets(t *testing.T) {
	good := frames("a", "")
	for _, rec := range []string{"", "x", "new record", framed("in it")} {
		for _, first := range []bool{false, true} {
			start, had, sure := []entry{{"log", good, ""}}, []string{"a", ""}, good
			if first {
				start, had, sure = nil, nil, ""
			}
			steps := [][]entry{start, {{"log", sure, framed(rec)}}, {{"log", sure + framed(rec), ""}}}
			for n := range 4 {
				d := filled(t, start...)
				j := opened(t, d, "log", had...)
				d.Budget(n)
				if n < 2 {
					tells(t, "Add", j.Add(rec), api.ErrGone)
					dead(t, d, j)
				} else {
					tells(t, "Add", j.Add(rec), api.OK)
				}
				holds(t, d, steps[min(n, 2)]...)
				crashed(d, func(x *disk.Disk) {
					b, _ := x.Read("log")
					if b == sure+framed(rec) {
						opened(t, x, "log", append(slices.Clone(had), rec)...)
					} else if n < 2 {
						opened(t, x, "log", had...)
					} else {
						t.Fatalf("a crash lost what was added: %q", b)
					}
				})
			}
		}
	}
}

// P8.1: Swap puts other records in place of all, be they none or many, by three writing calls, and one more if the other file exists.
func TestSwap(t *testing.T) {
	for _, recs := range [][]string{nil, {}, {""}, {"z"}, {"a", "b"}, {"b", "a"}, {"", "", ""}, ordinary(), {strings.Repeat("x", most), "", strings.Repeat("y", most)}, strings.Split(strings.Repeat("rec,", 5000), ",")} {
		for _, start := range [][]entry{nil, {{"log", "", ""}}, {{"log", frames("a", "b"), ""}}, {{"log", frames("a")[:7], frames("a", "b")[7:]}}} {
			for _, other := range []bool{false, true} {
				d, calls := filled(t, start...), 3
				j, _, _ := Open(d, "log")
				if other {
					calls = 4
					tells(t, "Append", d.Append("log.new", frames("other")), api.OK)
				}
				spends(t, d, calls, func() { tells(t, "Swap", j.Swap(recs), api.OK) })
				holds(t, d, entry{"log", frames(recs...), ""})
				opened(t, d, "log", recs...)
				crashed(d, func(x *disk.Disk) { opened(t, x, "log", recs...) })
				tells(t, "Add", j.Add("more"), api.OK)
				opened(t, d, "log", append(slices.Clone(recs), "more")...)
			}
		}
	}
}

// P8.1: if one of the records is too long, whichever, nothing is written, also without power, and the journal goes on.
func TestSwapLimit(t *testing.T) {
	l := []entry{{"log", frames("a"), ""}, {"log.new", "1", "2"}}
	for at := range 4 {
		d := filled(t, l[0])
		j := opened(t, d, "log", "a")
		recs := []string{"x", "", "y", strings.Repeat("z", most)}
		recs[at] = long
		spends(t, d, 0, func() { tells(t, "Swap to too much", j.Swap(recs), api.ErrLimit) })
		holds(t, d, l[0])
		put(t, d, l[1])
		d.Budget(0)
		tells(t, "Swap to too much without power", j.Swap(recs), api.ErrLimit)
		holds(t, d, l...)
		d.Budget(-1)
		recs[at] = "short"
		tells(t, "Swap", j.Swap(recs), api.OK)
		opened(t, d, "log", recs...)
	}
}

// P8.1, P8.3: a Swap with each number of writing calls ahead of the power's failure, and crashes with any picks behind it.
func TestSwapBudgets(t *testing.T) {
	had := []string{"a", "", "bc"}
	log, other := entry{"log", frames(had...), ""}, entry{"log.new", "12", framed("old")}
	for _, recs := range [][]string{nil, {"z"}, {"", "new", "records"}, {"a", ""}, {framed("in it"), "a"}} {
		b := frames(recs...)
		begun, copied, done := entry{"log.new", "", b}, entry{"log.new", b, ""}, entry{"log", b, ""}
		for _, steps := range [][][]entry{
			{{log}, {log, begun}, {log, copied}, {done}},
			{{log, other}, {log}, {log, begun}, {log, copied}, {done}},
		} {
			last := len(steps) - 1
			for n := range last + 3 {
				d := filled(t, log)
				j := opened(t, d, "log", had...)
				if len(steps[0]) > 1 {
					put(t, d, other)
				}
				d.Budget(n)
				want := recs
				if n < last {
					want = had
					tells(t, "Swap", j.Swap(recs), api.ErrGone)
					dead(t, d, j)
				} else {
					tells(t, "Swap", j.Swap(recs), api.OK)
				}
				holds(t, d, steps[min(n, last)]...)
				crashed(d, func(x *disk.Disk) {
					opened(t, x, "log", want...)
					holds(t, x, entry{"log", frames(want...), ""})
				})
			}
		}
	}
}

// R3: records that were passed and are written into then change nothing, and Swap changes none of them.
func TestSwapApart(t *testing.T) {
	d := disk.New()
	j := opened(t, d, "log")
	recs := []string{"a", "b", "a"}
	tells(t, "Swap", j.Swap(recs), api.OK)
	if !slices.Equal(recs, []string{"a", "b", "a"}) {
		t.Errorf("the records became %q", recs)
	}
	clear(recs)
	tells(t, "Add", j.Add("c"), api.OK)
	opened(t, d, "log", "a", "b", "a", "c")
}

// P8.1: a nil journal is refused everything, and so is what no Open returned.
func TestNil(t *testing.T) {
	for _, j := range []*Journal{nil, {}} {
		for range 2 {
			tells(t, "Add", j.Add("a"), api.ErrState)
			tells(t, "Add of too much", j.Add(long), api.ErrState)
			tells(t, "Swap to none", j.Swap(nil), api.ErrState)
			tells(t, "Swap", j.Swap([]string{"a"}), api.ErrState)
			tells(t, "Swap to too much", j.Swap([]string{long}), api.ErrState)
		}
	}
}

// P8.1: a journal is broken from the first error on and stays so; other journals of the disk, and what is opened then, are not.
func TestBroken(t *testing.T) {
	d := disk.New()
	j, k := opened(t, d, "log"), opened(t, d, "log")
	other := opened(t, d, "other")
	tells(t, "Add", j.Add("a"), api.OK)
	d.Budget(0)
	tells(t, "Add", j.Add("b"), api.ErrGone)
	dead(t, d, j)
	tells(t, "Add to another one", other.Add("x"), api.OK)
	tells(t, "Add to one of the same file", k.Add("c"), api.OK)
	again := opened(t, d, "log", "a", "c")
	dead(t, d, j)
	tells(t, "Swap", again.Swap([]string{"d"}), api.OK)
	tells(t, "Add", again.Add("e"), api.OK)
	dead(t, d, j)
	holds(t, d, entry{"log", frames("d", "e"), ""}, entry{"other", frames("x"), ""})
}

// P8.1: whatever somebody does to the files, the calls of the disk are the same ones.
func TestFilesTaken(t *testing.T) {
	d := filled(t, entry{"log", frames("a"), ""})
	j := opened(t, d, "log", "a")
	tells(t, "Remove", d.Remove("log"), api.OK)
	tells(t, "Add", j.Add("b"), api.OK)
	holds(t, d, entry{"log", frames("b"), ""})
	tells(t, "Rename", d.Rename("log", "away"), api.OK)
	tells(t, "Swap", j.Swap([]string{"c"}), api.OK)
	holds(t, d, entry{"away", frames("b"), ""}, entry{"log", frames("c"), ""})
	tells(t, "Append", d.Append("log", "rest"), api.OK)
	tells(t, "Add", j.Add("lost"), api.OK)
	holds(t, d, entry{"away", frames("b"), ""}, entry{"log", frames("c") + "rest" + frames("lost"), ""})
	opened(t, d, "log", "c")
	holds(t, d, entry{"away", frames("b"), ""}, entry{"log", frames("c"), ""})
}

// P8.1: a journal whose file is the other file of another one.
func TestOtherIsJournal(t *testing.T) {
	d := disk.New()
	j := opened(t, d, "log.new")
	tells(t, "Add", j.Add("a"), api.OK)
	opened(t, d, "log")
	holds(t, d)
	tells(t, "Add", j.Add("b"), api.OK)
	k := opened(t, d, "log")
	tells(t, "Add", j.Add("c"), api.OK)
	tells(t, "Swap", k.Swap([]string{"d"}), api.OK)
	holds(t, d, entry{"log", frames("d"), ""})
}

// model is a journal told call by call.
type model struct {
	d      *disk.Disk
	name   string
	broken bool
}

// until is the first error of some writing calls, each of which is done only behind those without one.
func until(errors ...func() api.Errno) api.Errno {
	for _, e := range errors {
		if why := e(); why != api.OK {
			return why
		}
	}
	return api.OK
}

// has tells whether a disk has a file.
func has(d *disk.Disk, name string) bool { return slices.Contains(d.Names(), name) }

// instead are the calls by which a file gets other bytes.
func (m *model) instead(b string) api.Errno {
	return until(
		func() api.Errno { return m.d.Append(m.name+".new", b) },
		func() api.Errno { return m.d.Sync(m.name + ".new") },
		func() api.Errno { return m.d.Rename(m.name+".new", m.name) },
	)
}

// clean removes the other file if it exists.
func (m *model) clean() api.Errno {
	if !has(m.d, m.name+".new") {
		return api.OK
	}
	return m.d.Remove(m.name + ".new")
}

// open is what Open should do.
func (m *model) open() ([]string, api.Errno) {
	b, _ := m.d.Read(m.name)
	recs, n := scanned(b)
	why := m.clean()
	if why == api.OK && has(m.d, m.name) && n < len(b) {
		why = m.instead(b[:n])
	}
	if why != api.OK {
		return nil, why
	}
	return recs, why
}

// write does calls, unless the journal is broken or the records are too long.
func (m *model) write(recs []string, calls ...func() api.Errno) api.Errno {
	if m.broken {
		return api.ErrState
	}
	if slices.ContainsFunc(recs, func(r string) bool { return len(r) > most }) {
		return api.ErrLimit
	}
	why := until(calls...)
	m.broken = why != api.OK
	return why
}

// pair is a journal and its model, on two disks that are the same.
type pair struct {
	d *disk.Disk
	j *Journal
	m *model
}

// step is a call that a pair does: two errors and two lists of records, which should be the same.
type step func(p *pair) (got, want api.Errno, recs, wanted []string)

// steps are calls that a pair may do.
func steps() []step {
	add := func(rec string) step {
		return func(p *pair) (got, want api.Errno, recs, wanted []string) {
			want = p.m.write([]string{rec}, func() api.Errno { return p.m.d.Append(p.m.name, framed(rec)) }, func() api.Errno { return p.m.d.Sync(p.m.name) })
			return p.j.Add(rec), want, nil, nil
		}
	}
	swap := func(l ...string) step {
		return func(p *pair) (got, want api.Errno, recs, wanted []string) {
			want = p.m.write(l, p.m.clean, func() api.Errno { return p.m.instead(frames(l...)) })
			return p.j.Swap(l), want, nil, nil
		}
	}
	budget := func(n int) step {
		return func(p *pair) (got, want api.Errno, recs, wanted []string) {
			p.d.Budget(n)
			p.m.d.Budget(n)
			return 0, 0, nil, nil
		}
	}
	crash := func(picks ...int) step {
		return func(p *pair) (got, want api.Errno, recs, wanted []string) {
			p.d, p.m.d = p.d.Crash(picks), p.m.d.Crash(picks)
			return open(p)
		}
	}
	foreign := func(name, data string) step {
		return func(p *pair) (got, want api.Errno, recs, wanted []string) {
			return p.d.Append(name, data), p.m.d.Append(name, data), nil, nil
		}
	}
	return []step{
		open, add(""), add("abc"), add(long), swap(), swap("x", "", "yz"), swap("a", long),
		budget(0), budget(1), budget(2), budget(-1), crash(), crash(5, 1), crash(-1, -3), foreign("log", "\x00\x00"), foreign("log.new", framed("n")), foreign("log", framed("f")),
	}
}

// open opens the journals of a pair; one that does not open stays what it was.
func open(p *pair) (got, want api.Errno, recs, wanted []string) {
	j, recs, got := Open(p.d, p.m.name)
	wanted, want = p.m.open()
	if (j != nil) != (want == api.OK) {
		return -1, want, recs, wanted
	}
	if j != nil {
		p.j = j
		p.m.broken = false
	}
	return got, want, recs, wanted
}

// fresh is a pair on two new disks.
func fresh() *pair {
	p := &pair{d: disk.New(), m: &model{d: disk.New(), name: "log"}}
	open(p)
	return p
}

// both does a step and ends the test if the two differ.
func (p *pair) both(t *testing.T, do step) {
	t.Helper()
	got, want, recs, wanted := do(p)
	if got != want || !slices.Equal(recs, wanted) {
		t.Fatalf("error %d, records %q, want %d, %q", got, recs, want, wanted)
	}
	holds(t, p.d, files(p.m.d)...)
}

// P8.1: all sequences of three calls, with an Open behind them, against the model.
func TestShortSequences(t *testing.T) {
	l := steps()
	n := len(l)
	for i := range n * n * n {
		p := fresh()
		for _, at := range []int{i / n / n, i / n % n, i % n} {
			p.both(t, l[at])
		}
		p.both(t, open)
	}
}

// P8.1: long sequences of calls against the model.
func TestLongSequences(t *testing.T) {
	r := rand.New(rand.NewSource(4))
	l := steps()
	for range 300 {
		p := fresh()
		for range 60 {
			p.both(t, l[r.Intn(len(l))])
		}
	}
}

// P8.2: rounds of records added until the power fails, and of crashes: what was added is there, and at most one more.
func TestCrashes(t *testing.T) {
	r := rand.New(rand.NewSource(5))
	l := ordinary()
	for range 300 {
		d := disk.New()
		var sure []string
		for range 8 {
			j := opened(t, d, "log", sure...)
			d.Budget(r.Intn(9))
			rec := l[r.Intn(16)]
			for j.Add(rec) == api.OK {
				sure = append(sure, rec)
				rec = l[r.Intn(16)]
			}
			dead(t, d, j)
			d = d.Crash([]int{r.Int() - r.Int(), r.Int()})
			_, recs, why := Open(d, "log")
			if why != api.OK || !slices.Equal(recs, sure) && !slices.Equal(recs, append(slices.Clone(sure), rec)) {
				t.Fatalf("behind a crash: %.300q, error %d, want %.300q and perhaps %.100q", recs, why, sure, rec)
			}
			sure = recs
		}
	}
}

// P8.2: a record that was added is there behind every crash, whichever files the disk has beside it.
func TestCrashesBeside(t *testing.T) {
	for _, name := range []string{"a", "log.neu", "z"} {
		d := filled(t, entry{name, "1", "2345"})
		j := opened(t, d, "log")
		for i := range 5 {
			tells(t, "Add", j.Add(strconv.Itoa(i)), api.OK)
			tells(t, "Append", d.Append("log.new", "torn"), api.OK)
			var want []string
			for k := range i + 1 {
				want = append(want, strconv.Itoa(k))
			}
			for pick := range 12 {
				x := d.Crash([]int{pick, 12 - pick, pick})
				opened(t, x, "log", want...)
			}
		}
	}
}

// P8.3: rounds of Swap and Add until the power fails, and of crashes: all that was there before a Swap, or just what came in its place.
func TestSwapCrashes(t *testing.T) {
	r := rand.New(rand.NewSource(6))
	l := ordinary()[:12]
	for range 1000 {
		d := disk.New()
		var sure []string
		for range 6 {
			j := opened(t, d, "log", sure...)
			d.Budget(r.Intn(12))
			for {
				next, why := slices.Clone(sure), api.OK
				if r.Intn(3) > 0 {
					next = slices.Clone(l[r.Intn(6):][:r.Intn(6)])
					why = j.Swap(next)
				} else {
					next = append(next, l[r.Intn(len(l))])
					why = j.Add(next[len(next)-1])
				}
				if why == api.OK {
					sure = next
					continue
				}
				tells(t, "the last call", why, api.ErrGone)
				d = d.Crash([]int{r.Int() - r.Int(), r.Int()})
				_, recs, why := Open(d, "log")
				if why != api.OK || !slices.Equal(recs, sure) && !slices.Equal(recs, next) {
					t.Fatalf("behind a crash: %q, error %d, want %q or %q", recs, why, sure, next)
				}
				sure = recs
				break
			}
		}
	}
}

// R1: arbitrary bytes as a file, and as a record.
func FuzzJournal(f *testing.F) {
	f.Add("", "", 0, 0)
	f.Add(frames("a", "", "bc"), "d", 1, 5)
	f.Add(frames("a")+"rest", "\x00", 4, -1)
	f.Add(bent(frames("a", "b"), 14), framed("x"), 3, math.MinInt)
	f.Fuzz(func(t *testing.T, data, rec string, n, pick int) {
		recs, size := Scan(data)
		want, wanted := scanned(data)
		if size != wanted || !slices.Equal(recs, want) {
			t.Fatalf("Scan of %q: %q, %d, want %q, %d", data, recs, size, want, wanted)
		}
		d := filled(t, entry{"log", data[:len(data)/2], data[len(data)/2:]})
		j := opened(t, d, "log", recs...)
		tells(t, "Swap", j.Swap(recs), api.OK)
		d.Budget(n)
		why := j.Add(rec)
		x := d.Crash([]int{pick})
		_, after, _ := Open(x, "log")
		longer := slices.Equal(after, append(slices.Clone(recs), rec))
		if !longer && (why == api.OK || !slices.Equal(after, recs)) {
			t.Fatalf("behind a crash: %q, error %d", after, why)
		}
	})
}
