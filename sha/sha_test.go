package sha

import (
	"crypto/sha256"
	"encoding/hex"
	"math/rand"
	"slices"
	"strings"
	"testing"

	"bloomery/api"
)

// text is n bytes, no two neighbouring blocks of which are alike.
func text(n int) string {
	b := make([]byte, n)
	for i := range b {
		b[i] = byte(i*7 + i/64*31 + i/256)
	}
	return string(b)
}

// wanted is the digest of s, by the library.
func wanted(s string) api.Digest {
	return sha256.Sum256([]byte(s))
}

// added is the sum of a new hash to which the parts were added.
func added(parts ...string) api.Digest {
	h := New()
	for _, p := range parts {
		h.Add(p)
	}
	return h.Sum()
}

// ends are the lengths at which a block, or the room for the length in it, begins or ends.
func ends() []int {
	var l []int
	for block := 0; block <= 256; block += 64 {
		for _, n := range []int{block - 9, block - 8, block - 7, block - 1, block, block + 1} {
			if n >= 0 {
				l = append(l, n)
			}
		}
	}
	return l
}

// P2.1: digests that are known.
func TestSumKnown(t *testing.T) {
	for _, c := range []struct{ s, want string }{
		{"", "e3b0c44298fc1c149afbf4c8996fb92427ae41e4649b934ca495991b7852b855"},
		{"a", "ca978112ca1bbdcafac231b39a23dc4da786eff8147c4e72b9807785afee48bb"},
		{"abc", "ba7816bf8f01cfea414140de5dae2223b00361a396177a9cb410ff61f20015ad"},
		{"abcdbcdecdefdefgefghfghighijhijkijkljklmklmnlmnomnopnopq", "248d6a61d20638b8e5c026930c3e6039a33ce45964ff2167f6ecedd419db06c1"},
		{"abcdefghbcdefghicdefghijdefghijkefghijklfghijklmghijklmnhijklmnoijklmnopjklmnopqklmnopqrlmnopqrsmnopqrstnopqrstu", "cf5b16a778af8380036ce59e7b0492370b249b11e8f07a51afac45037afee9d1"},
		{strings.Repeat("a", 1_000_000), "cdc76e5c9914fb9281a1c7e284d73e67f1809a48a497200e046d39ccc7112cd0"},
		{"\xbd", "68325720aabd7c82f30f554b313d0570c95accbb7dc4b5aae11204c08ffe732b"},
	} {
		if got := Hex(Sum(c.s)); got != c.want {
			t.Errorf("Sum of %d bytes is %s, want %s", len(c.s), got, c.want)
		}
		if got := Hex(added(c.s)); got != c.want {
			t.Errorf("a hash of %d bytes is %s, want %s", len(c.s), got, c.want)
		}
	}
}

// P2.1: every length of a text, the ends of blocks among them.
func TestSumLengths(t *testing.T) {
	s := text(1100)
	for n := range len(s) {
		if Sum(s[:n]) != wanted(s[:n]) {
			t.Errorf("Sum of %d bytes", n)
		}
		if added(s[:n]) != wanted(s[:n]) {
			t.Errorf("a hash of %d bytes", n)
		}
	}
}

// P2.1: the same byte at every end of a block, where an ending could be taken for a part of the text.
func TestSumBytes(t *testing.T) {
	for c := range 256 {
		for _, n := range ends() {
			s := strings.Repeat(string([]byte{byte(c)}), n)
			if Sum(s) != wanted(s) {
				t.Errorf("Sum of %d bytes %#x", n, c)
			}
		}
	}
}

// P2.1: one bit more or less, at any place, is another text.
func TestSumBits(t *testing.T) {
	seen := map[api.Digest]bool{Sum(text(130)): true}
	for i := range 130 {
		for bit := range 8 {
			b := []byte(text(130))
			b[i] ^= 1 << bit
			d := Sum(string(b))
			if d != wanted(string(b)) || seen[d] {
				t.Fatalf("Sum with bit %d of byte %d changed", bit, i)
			}
			seen[d] = true
		}
	}
}

// P2.1: a text of 2^29 bytes has 2^32 bits, so its length needs more than one word.
func TestSumLong(t *testing.T) {
	part := text(1 << 20)
	h, want := New(), sha256.New()
	for range 1 << 9 {
		h.Add(part)
		want.Write([]byte(part))
	}
	for _, more := range []string{"", "x", text(63)} {
		h.Add(more)
		want.Write([]byte(more))
		if d := h.Sum(); !slices.Equal(d[:], want.Sum(nil)) {
			t.Errorf("a hash of 2^29 bytes, and %d more: %s", len(more), Hex(d))
		}
	}
}

// P2.1: no parts, and parts of no bytes, are the empty string.
func TestSumEmpty(t *testing.T) {
	want := wanted("")
	h := New()
	if h.Sum() != want {
		t.Error("a new hash")
	}
	h.Add("")
	if h.Sum() != want {
		t.Error("a hash to which the empty string was added")
	}
	for _, parts := range [][]string{nil, {}, {""}, {"", "", ""}} {
		if Sum(parts...) != want {
			t.Errorf("Sum(%q)", parts)
		}
	}
}

// P2.1: a nil hash ignores Add, and its Sum is that of the empty string.
func TestNilHash(t *testing.T) {
	var h *Hash
	for _, s := range []string{"", "abc", text(64), text(200)} {
		if h.Sum() != wanted("") {
			t.Error("the sum of a nil hash")
		}
		h.Add(s)
		if h != nil || h.Sum() != wanted("") {
			t.Errorf("a nil hash after Add of %d bytes", len(s))
		}
	}
	if added("abc") != wanted("abc") {
		t.Error("a new hash after Add to a nil one")
	}
}

// P2.1: Sum of a hash does not change it, wherever in a block it is called, and however often.
func TestSumKeeps(t *testing.T) {
	s := text(300)
	h := New()
	for i := range len(s) {
		for range 2 {
			if h.Sum() != wanted(s[:i]) {
				t.Fatalf("the sum so far, of %d bytes", i)
			}
		}
		h.Add(s[i : i+1])
	}
	for _, n := range ends() {
		h := New()
		h.Add(s[:n])
		h.Sum()
		h.Add(s[n:])
		if h.Sum() != wanted(s) {
			t.Errorf("a hash whose sum was asked for after %d bytes", n)
		}
	}
}

// P2.1: what one hash is told is nothing to another.
func TestHashesApart(t *testing.T) {
	a, b := New(), New()
	if a == b {
		t.Fatal("New returns one hash twice")
	}
	for i := range 100 {
		a.Add(text(i))
		b.Add("b")
		if b.Sum() != wanted(strings.Repeat("b", i+1)) {
			t.Fatalf("the second hash, after %d calls", i+1)
		}
	}
	if New().Sum() != wanted("") || Sum("c") != wanted("c") {
		t.Error("a new hash after others")
	}
}

// P2.1: sequences of calls on some hashes.
func TestSequences(t *testing.T) {
	r := rand.New(rand.NewSource(1))
	for range 300 {
		hashes, texts := []*Hash{New(), New(), New()}, make([]string, 3)
		for range 30 {
			i := r.Intn(3)
			part := text(400)[r.Intn(200):][:r.Intn(200)]
			hashes[i].Add(part)
			texts[i] += part
			if j := r.Intn(3); hashes[j].Sum() != wanted(texts[j]) {
				t.Fatalf("a hash of %d bytes", len(texts[j]))
			}
		}
	}
}

// P2.2: wherever a text is cut in two.
func TestCutInTwo(t *testing.T) {
	for _, n := range append(ends(), 100, 300) {
		s := text(n)
		want := wanted(s)
		for i := range n + 1 {
			if Sum(s[:i], s[i:]) != want || added(s[:i], s[i:]) != want {
				t.Errorf("%d bytes, cut at %d", n, i)
			}
		}
	}
}

// P2.2: wherever a text is cut in three, with empty parts in between.
func TestCutInThree(t *testing.T) {
	for _, n := range []int{64, 119, 129, 200} {
		s := text(n)
		want := wanted(s)
		for i := range n + 1 {
			for j := i; j <= n; j++ {
				if Sum(s[:i], "", s[i:j], "", s[j:]) != want || added("", s[:i], s[i:j], s[j:], "") != want {
					t.Fatalf("%d bytes, cut at %d and %d", n, i, j)
				}
			}
		}
	}
}

// P2.2: parts of any one size.
func TestPartsOfOneSize(t *testing.T) {
	s := text(1000)
	for size := 1; size <= 200; size++ {
		var parts []string
		for i := 0; i < len(s); i += size {
			parts = append(parts, s[i:min(len(s), i+size)])
		}
		if Sum(parts...) != wanted(s) || added(parts...) != wanted(s) {
			t.Errorf("parts of %d bytes", size)
		}
	}
}

// P2.2: what counts is the order of the bytes, so parts in another order are another text.
func TestPartsInOrder(t *testing.T) {
	if Sum("ab", "c") == Sum("c", "ab") || added("ab", "c") == added("c", "ab") {
		t.Error("the order of parts")
	}
}

// P2.3: the text of a digest has the digits of each byte, the higher one first.
func TestHex(t *testing.T) {
	var rising api.Digest
	for i := range rising {
		rising[i] = byte(i*8 + i/4)
	}
	for d, want := range map[api.Digest]string{
		{}:            strings.Repeat("0", 64),
		{0: 0xf0}:     "f0" + strings.Repeat("0", 62),
		{31: 0x1a}:    strings.Repeat("0", 62) + "1a",
		rising:        hex.EncodeToString(rising[:]),
		wanted("abc"): "ba7816bf8f01cfea414140de5dae2223b00361a396177a9cb410ff61f20015ad",
	} {
		if got := Hex(d); got != want {
			t.Errorf("Hex(%v) = %q", d, got)
		}
	}
}

// P2.3: every byte at every place, there and back.
func TestHexOf(t *testing.T) {
	for i := range len(api.Digest{}) {
		for c := range 256 {
			d := wanted(text(i))
			d[i] = byte(c)
			s := hex.EncodeToString(d[:])
			if got := Hex(d); got != s {
				t.Fatalf("Hex is %q, want %q", got, s)
			}
			if got, ok := Of(s); !ok || got != d {
				t.Fatalf("Of(%q) = %v, %t", s, got, ok)
			}
		}
	}
	if d, ok := Of(strings.Repeat("0", 64)); !ok || d != (api.Digest{}) {
		t.Error("the zero digest has a text, too")
	}
}

// P2.3: a text that is too short or too long is that of no digest.
func TestOfLengths(t *testing.T) {
	for n := range 300 {
		for _, digit := range []string{"0", "a"} {
			d, ok := Of(strings.Repeat(digit, n))
			if n != 64 && (ok || d != api.Digest{}) {
				t.Errorf("Of of %d digits: %v, %t", n, d, ok)
			}
			if n == 64 && !ok {
				t.Error("Of of 64 digits")
			}
		}
	}
}

// P2.3: any byte but a digit, at any place, makes a text that of no digest.
func TestOfBytes(t *testing.T) {
	good := Hex(wanted("abc"))
	for i := range len(good) {
		for c := range 256 {
			if strings.IndexByte("0123456789abcdef", byte(c)) >= 0 {
				continue
			}
			s := good[:i] + string([]byte{byte(c)}) + good[i+1:]
			if d, ok := Of(s); ok || d != (api.Digest{}) {
				t.Fatalf("Of(%q) = %v, %t", s, d, ok)
			}
		}
	}
}

// P2.3: forms that are nearly the text of a digest.
func TestOfForms(t *testing.T) {
	good := Hex(wanted("abc"))
	for _, s := range []string{
		strings.ToUpper(good), "0x" + good, "0x" + good[2:], " " + good, good + "\n", good[1:] + " ", "-" + good[1:], "+" + good[1:],
		good[:32] + "-" + good[32:], good + good, strings.Repeat("é", 32), strings.Repeat("٣", 32), strings.Repeat("\x00", 64), strings.Repeat("\xff", 64),
	} {
		if d, ok := Of(s); ok || d != (api.Digest{}) {
			t.Errorf("Of(%q) = %v, %t", s, d, ok)
		}
	}
}

// R3: an argument is neither modified nor kept.
func TestNothingShared(t *testing.T) {
	parts := []string{"a", "", "bc"}
	d := Sum(parts...)
	if !slices.Equal(parts, []string{"a", "", "bc"}) {
		t.Errorf("the parts are %q", parts)
	}
	parts[0] = "x"
	if d != wanted("abc") || Sum("a", "bc") != d {
		t.Error("the digest of parts that were changed later")
	}
	h := New()
	h.Add("abc")
	first := h.Sum()
	first[0]++
	if h.Sum() != wanted("abc") {
		t.Error("a result that is written into changes the hash")
	}
}

// R1: arbitrary bytes in arbitrary parts, and arbitrary texts of digests.
func FuzzSum(f *testing.F) {
	for _, n := range ends() {
		f.Add(text(n), n/2)
	}
	f.Add(Hex(wanted("")), -1)
	f.Fuzz(func(t *testing.T, s string, cut int) {
		cut = min(max(cut, 0), len(s))
		if Sum(s[:cut], s[cut:]) != wanted(s) || added(s[:cut], s[cut:]) != wanted(s) {
			t.Errorf("%q, cut at %d", s, cut)
		}
		if d, ok := Of(s); ok && Hex(d) != s || !ok && d != (api.Digest{}) {
			t.Errorf("Of(%q) = %v, %t", s, d, ok)
		}
	})
}
