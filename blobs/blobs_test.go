package blobs

import (
	"bytes"
	"crypto/sha256"
	"encoding/hex"
	"math/rand"
	"slices"
	"strconv"
	"strings"
	"testing"

	"bloomery/api"
)

// wanted is the digest of data, by the library.
func wanted(data string) api.Digest {
	return sha256.Sum256([]byte(data))
}

// texts are contents that are all different, some of which begin or end as others do.
func texts() []string {
	return []string{
		"", "a", "b", "aa", "ab", "ba", "A", "a ", " a", "a\n", "\n", "\x00", "\x00\x00", "a\x00", "\x00a", "é", "e\u0301", "\xff", "\xff\xfe", "1:a", "0:",
		digits(api.Digest{}), word(api.Digest{}), word(wanted("a")), digits(wanted("a")),
		strings.Repeat("x", 55), strings.Repeat("x", 56), strings.Repeat("x", 64), strings.Repeat("x", 65536), strings.Repeat("x", 65537), strings.Repeat("xy", 1<<19),
	}
}

// word is the bytes of a digest as a string.
func word(d api.Digest) string {
	return string(d[:])
}

// digits is the text of a digest, by the library.
func digits(d api.Digest) string {
	return hex.EncodeToString(d[:])
}

// filled is a new store with these contents.
func filled(contents ...string) *Store {
	s := New()
	for _, data := range contents {
		s.Put(data)
	}
	return s
}

// alike are pairs of contents whose digests begin with the same bytes: the first one's digest is the lesser.
func alike() [][2]string {
	return [][2]string{
		{"12", "1"}, {"3", "18"}, {"26", "0"}, {"56", "36"}, // one byte
		{"251", "157"}, {"308", "390"}, {"184", "411"}, {"522", "391"}, // two bytes
		{"8864", "4163"}, {"7056", "9891"}, {"10092", "6792"}, {"8082", "11674"}, // three bytes
		{"69235", "95303"}, {"102584", "88277"}, {"135277", "3897"}, {"135732", "66937"}, // four bytes
		{"24685965", "17551851"}, {"19659142", "8811473"}, {"13486637", "1027121"}, {"29812798", "23515883"}, // five bytes
	}
}

// kept tells, by the list of the contents that a store should have, whether all its calls agree with it.
func kept(t *testing.T, s *Store, contents []string) {
	t.Helper()
	size := 0
	var want []string
	for _, data := range contents {
		d := wanted(data)
		size += len(data)
		want = append(want, digits(d))
		if got, ok := s.Get(d); got != data || !ok {
			t.Fatalf("Get of %.40q is %.40q, %t", data, got, ok)
		}
	}
	slices.Sort(want)
	if got := s.Size(); got != size {
		t.Fatalf("Size is %d, want %d", got, size)
	}
	var all []string
	for _, d := range s.All() {
		all = append(all, digits(d))
		if data, ok := s.Get(d); !ok || wanted(data) != d {
			t.Fatalf("Get of %x, which All has: %.40q, %t", d, data, ok)
		}
	}
	if !slices.Equal(all, want) {
		t.Fatalf("All is %v, want %v", all, want)
	}
}

// lacks tells whether a store has nothing with a digest, and whether Drop says so and removes nothing.
func lacks(t *testing.T, s *Store, d api.Digest) {
	t.Helper()
	size, all := s.Size(), s.All()
	if data, ok := s.Get(d); data != "" || ok {
		t.Fatalf("Get of %x, which nothing has: %.40q, %t", d, data, ok)
	}
	if s.Drop(d) {
		t.Fatalf("Drop of %x, which nothing has", d)
	}
	if s.Size() != size || !slices.Equal(s.All(), all) {
		t.Fatalf("Drop of %x, which nothing has, changed the store", d)
	}
}

// P6.1: a new store is empty.
func TestNew(t *testing.T) {
	s := New()
	if s == nil {
		t.Fatal("New is nil")
	}
	kept(t, s, nil)
	lacks(t, s, api.Digest{})
	for _, data := range texts() {
		lacks(t, s, wanted(data))
	}
	kept(t, s, nil)
}

// P6.1, P6.2: what a store has behind each Put, and behind each Drop.
func TestPutDrop(t *testing.T) {
	s := New()
	l := texts()
	for i, data := range l {
		lacks(t, s, wanted(data))
		if d := s.Put(data); d != wanted(data) {
			t.Fatalf("Put of %.40q is %x", data, d)
		}
		kept(t, s, l[:i+1])
	}
	for i, data := range l {
		if !s.Drop(wanted(data)) {
			t.Fatalf("Drop of %.40q", data)
		}
		lacks(t, s, wanted(data))
		kept(t, s, l[i+1:])
	}
}

// P6.1, P6.3: Drop of one, whichever it is, removes that alone.
func TestDropOne(t *testing.T) {
	l := texts()
	for i, data := range l {
		s := filled(l...)
		if !s.Drop(wanted(data)) {
			t.Fatalf("Drop of %.40q", data)
		}
		lacks(t, s, wanted(data))
		kept(t, s, slices.Delete(slices.Clone(l), i, i+1))
	}
}

// P6.1, P6.2: bytes that are put again are kept once, and one Drop removes them.
func TestPutTwice(t *testing.T) {
	for _, data := range texts() {
		s := filled("other")
		for range 3 {
			again := string([]byte(data))
			if d := s.Put(again); d != wanted(data) {
				t.Fatalf("Put of %.40q is %x", data, d)
			}
			kept(t, s, []string{data, "other"})
		}
		if !s.Drop(wanted(data)) {
			t.Fatalf("Drop of %.40q", data)
		}
		lacks(t, s, wanted(data))
		kept(t, s, []string{"other"})
	}
}

// P6.1: what was dropped can be put again, however often.
func TestPutAgain(t *testing.T) {
	for _, data := range texts() {
		s := filled("other")
		for range 3 {
			if d := s.Put(data); d != wanted(data) {
				t.Fatalf("Put of %.40q is %x", data, d)
			}
			kept(t, s, []string{"other", data})
			if !s.Drop(wanted(data)) || s.Drop(wanted(data)) || s.Drop(wanted(data)) {
				t.Fatalf("Drop of %.40q", data)
			}
			kept(t, s, []string{"other"})
		}
	}
}

// P6.1, P6.2: the empty string is something that is kept, though its size is 0.
func TestEmptyString(t *testing.T) {
	s := New()
	none := wanted("")
	lacks(t, s, none)
	if s.Put("") != none || s.Size() != 0 || !slices.Equal(s.All(), []api.Digest{none}) {
		t.Error("Put of the empty string")
	}
	if data, ok := s.Get(none); data != "" || !ok {
		t.Error("Get of the empty string's digest")
	}
	lacks(t, s, api.Digest{})
	if !s.Drop(none) || s.Drop(none) || len(s.All()) != 0 {
		t.Error("Drop of the empty string's digest")
	}
	lacks(t, s, none)
}

// P6.1, P6.3: a digest that differs from one that is kept by any one bit is that of nothing.
func TestBits(t *testing.T) {
	s := filled("a", "")
	for _, data := range []string{"a", ""} {
		for i := range len(api.Digest{}) {
			for bit := range 8 {
				d := wanted(data)
				d[i] ^= 1 << bit
				lacks(t, s, d)
				if Check(d, data) {
					t.Fatalf("Check of %x and %q", d, data)
				}
			}
		}
	}
	kept(t, s, []string{"a", ""})
}

// P6.1: digests that look special, or are made of what is kept, are those of nothing.
func TestNoDigests(t *testing.T) {
	s := filled(texts()...)
	a := wanted("a")
	back := a
	slices.Reverse(back[:])
	part := a
	clear(part[8:])
	for _, d := range []api.Digest{
		{}, api.Digest(bytes.Repeat([]byte{0xff}, 32)), api.Digest(bytes.Repeat([]byte{'a'}, 32)), {0: 'a'}, {31: 'a'},
		back, part, wanted("c"), wanted("a" + "a" + "a"), wanted(word(wanted("b"))),
	} {
		lacks(t, s, d)
	}
	kept(t, s, texts())
}

// P6.1, P6.3: bytes that are another's digest, or that digest's text, are kept as what they are.
func TestDigestsAsBytes(t *testing.T) {
	s := New()
	data := "a"
	l := []string{data}
	s.Put(data)
	for range 20 {
		data = word(wanted(data))
		l = append(l, data, hex.EncodeToString([]byte(data)))
		s.Put(data)
		s.Put(l[len(l)-1])
		kept(t, s, l)
	}
}

// P6.2: All is in the order of the first bytes that differ, as unsigned numbers, whichever was put first.
func TestAllAlike(t *testing.T) {
	for i, pair := range alike() {
		first, second := wanted(pair[0]), wanted(pair[1])
		same := 1 + i/4
		if !slices.Equal(first[:same], second[:same]) || first[same] >= second[same] {
			t.Fatalf("%q are no pair", pair)
		}
		want := []api.Digest{first, second}
		if got := filled(pair[0], pair[1]).All(); !slices.Equal(got, want) {
			t.Errorf("All of %q is %x", pair, got)
		}
		if got := filled(pair[1], pair[0]).All(); !slices.Equal(got, want) {
			t.Errorf("All of %q, put the other way round, is %x", pair, got)
		}
	}
}

// P6.2: All of all the pairs at once, in different orders of Put, with some dropped.
func TestAllOrders(t *testing.T) {
	var l []string
	for _, pair := range alike() {
		l = append(l, pair[0], pair[1])
	}
	r := rand.New(rand.NewSource(1))
	for range 50 {
		r.Shuffle(len(l), func(i, j int) { l[i], l[j] = l[j], l[i] })
		s := filled(l...)
		kept(t, s, l)
		for i, data := range l {
			s.Drop(wanted(data))
			kept(t, s, l[i+1:])
		}
	}
}

// P6.2: All has each first byte that there can be, and is the same when it is asked again.
func TestAllMany(t *testing.T) {
	s := New()
	var l []string
	for i := range 5000 {
		data := "file " + strconv.Itoa(i)
		l = append(l, data)
		s.Put(data)
	}
	kept(t, s, l)
	all := s.All()
	if all[0][0] != 0 || all[len(all)-1][0] != 0xff {
		t.Errorf("All goes from %x to %x", all[0], all[len(all)-1])
	}
	for range 10 {
		if !slices.Equal(s.All(), all) {
			t.Fatal("All is not the same when it is asked again")
		}
	}
}

// P6.2: of two digests, the first byte that differs decides, at every place and for every two values.
func TestCompare(t *testing.T) {
	for i := range len(api.Digest{}) {
		for _, low := range []byte{0, 1, 0x7f, 0x80, 0xfe} {
			for high := int(low) + 1; high < 256; high++ {
				a, b := wanted("a"), wanted("a")
				a[i], b[i] = low, byte(high)
				if i+1 < len(a) {
					a[i+1], b[i+1] = 0xff, 0
				}
				if compare(a, b) >= 0 || compare(b, a) <= 0 || compare(a, a) != 0 {
					t.Fatalf("compare of %x and %x", a, b)
				}
			}
		}
	}
}

// P6.2: Size counts bytes, not characters, and each content once.
func TestSize(t *testing.T) {
	for _, c := range []struct {
		contents []string
		want     int
	}{
		{nil, 0},
		{[]string{""}, 0},
		{[]string{"", "", ""}, 0},
		{[]string{"a"}, 1},
		{[]string{"a", "a"}, 1},
		{[]string{"a", "", "bb"}, 3},
		{[]string{"é"}, 2},
		{[]string{"é", "e\u0301"}, 5},
		{[]string{"\x00", "\x00\x00"}, 3},
		{[]string{"a", "b", "c", "b", "a"}, 3},
		{[]string{strings.Repeat("x", 1<<20), strings.Repeat("y", 1<<20)}, 1 << 21},
	} {
		if got := filled(c.contents...).Size(); got != c.want {
			t.Errorf("Size of %.40q is %d, want %d", c.contents, got, c.want)
		}
	}
}

// P6.2: Check, for each digest and each content.
func TestCheck(t *testing.T) {
	for i, a := range texts() {
		for j, b := range texts() {
			if Check(wanted(a), b) != (i == j) {
				t.Errorf("Check of the digest of %.40q and %.40q", a, b)
			}
		}
		if Check(api.Digest{}, a) {
			t.Errorf("Check of the zero digest and %.40q", a)
		}
	}
}

// P6.2: Check neither needs a store that has the bytes, nor puts them into one.
func TestCheckApart(t *testing.T) {
	s := New()
	if !Check(wanted("a"), "a") || Check(s.Put("b"), "a") {
		t.Error("Check")
	}
	kept(t, s, []string{"b"})
	s.Drop(wanted("b"))
	if !Check(wanted("b"), "b") {
		t.Error("Check of what was dropped")
	}
}

// P6.2: a nil store: Put returns the digest and stores nothing, and the others return nothing.
func TestNilStore(t *testing.T) {
	var s *Store
	for _, data := range append(texts(), texts()...) {
		if s.Put(data) != wanted(data) {
			t.Errorf("Put of %.40q", data)
		}
		if got, ok := s.Get(wanted(data)); got != "" || ok {
			t.Errorf("Get of %.40q is %.40q, %t", data, got, ok)
		}
		if s.Drop(wanted(data)) {
			t.Errorf("Drop of %.40q", data)
		}
		if s != nil || len(s.All()) != 0 || s.Size() != 0 {
			t.Errorf("All is %x, Size is %d", s.All(), s.Size())
		}
	}
	lacks(t, s, api.Digest{})
	kept(t, New(), nil)
	kept(t, filled("a"), []string{"a"})
}

// P6.3: what one store is told is nothing to another.
func TestStoresApart(t *testing.T) {
	a, b := New(), New()
	if a == b {
		t.Fatal("New returns one store twice")
	}
	a.Put("a")
	kept(t, b, nil)
	b.Put("a")
	b.Put("b")
	kept(t, a, []string{"a"})
	a.Drop(wanted("a"))
	lacks(t, a, wanted("b"))
	kept(t, b, []string{"a", "b"})
	kept(t, New(), nil)
}

// P6.3: sequences of calls on some stores, each against a list of what it should have.
func TestSequences(t *testing.T) {
	r := rand.New(rand.NewSource(2))
	l := []string{"", "a", "b", "c", "12", "1", "8864", "4163", strings.Repeat("x", 200)}
	for range 200 {
		stores, contents := []*Store{New(), New()}, make([][]string, 2)
		for range 60 {
			i, data := r.Intn(len(stores)), l[r.Intn(len(l))]
			at := slices.Index(contents[i], data)
			switch r.Intn(3) {
			case 0:
				if stores[i].Put(data) != wanted(data) {
					t.Fatalf("Put of %q", data)
				}
				if at < 0 {
					contents[i] = append(contents[i], data)
				}
			case 1:
				if stores[i].Drop(wanted(data)) != (at >= 0) {
					t.Fatalf("Drop of %q, which is kept: %t", data, at >= 0)
				}
				if at >= 0 {
					contents[i] = slices.Delete(contents[i], at, at+1)
				}
			default:
				if got, ok := stores[i].Get(wanted(data)); ok != (at >= 0) || !ok && got != "" {
					t.Fatalf("Get of %q is %q, %t", data, got, ok)
				}
			}
			for j, s := range stores {
				kept(t, s, contents[j])
			}
		}
	}
}

// P6.1, P6.3: Get, All, Size and Check change nothing, however often they are called.
func TestReadsChangeNothing(t *testing.T) {
	s := filled(texts()...)
	for range 3 {
		for _, data := range append(texts(), "c") {
			s.Get(wanted(data))
			Check(wanted(data), data)
		}
		s.Get(api.Digest{})
		kept(t, s, texts())
	}
}

// R3: a result that is written into changes neither the store nor another result.
func TestResultsApart(t *testing.T) {
	s := filled("a", "bb", "")
	d := s.Put("a")
	d[0]++
	kept(t, s, []string{"a", "bb", ""})
	one, other := s.All(), s.All()
	clear(one)
	_ = append(one[:0], d, d, d, d)
	kept(t, s, []string{"a", "bb", ""})
	if !slices.Equal(s.All(), other) || one[0] == other[0] {
		t.Error("two results of All are one")
	}
	s.Put("c")
	s.Drop(wanted("bb"))
	if len(other) != 3 || !slices.Contains(other, wanted("bb")) {
		t.Error("a result of All changes with the store")
	}
}

// R3: bytes from which a string was made can be written into later.
func TestArgumentsApart(t *testing.T) {
	b := []byte("abc")
	s := filled(string(b))
	d := wanted("abc")
	copy(b, "xyz")
	kept(t, s, []string{"abc"})
	s.Get(d)
	s.Drop(d)
	if d != wanted("abc") {
		t.Error("a digest that was passed is another one now")
	}
}

// R1: arbitrary bytes, cut in contents anywhere, and arbitrary digests.
func FuzzStore(f *testing.F) {
	f.Add("a b a", " ")
	f.Add("", "")
	f.Add(strings.Repeat("x\x00", 40), "\x00")
	f.Add(word(wanted("")), "\xff")
	f.Fuzz(func(t *testing.T, text, cut string) {
		s := New()
		var l []string
		for _, data := range strings.Split(text, cut) {
			if s.Put(data) != wanted(data) || !Check(wanted(data), data) {
				t.Fatalf("Put of %q", data)
			}
			if !slices.Contains(l, data) {
				l = append(l, data)
			}
			kept(t, s, l)
		}
		var d api.Digest
		copy(d[:], text)
		if !slices.ContainsFunc(l, func(data string) bool { return wanted(data) == d }) {
			lacks(t, s, d)
		}
		for i, data := range l {
			if !s.Drop(wanted(data)) {
				t.Fatalf("Drop of %q", data)
			}
			lacks(t, s, wanted(data))
			kept(t, s, l[i+1:])
		}
	})
}
