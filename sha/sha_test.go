package sha

import (
	"crypto/sha256"
	"encoding"
	"encoding/binary"
	"encoding/hex"
	"math/big"
	"math/rand"
	"strings"
	"testing"
)

// edges are the lengths around which the padding makes a block more.
var edges = []int{0, 1, 54, 55, 56, 57, 62, 63, 64, 65, 118, 119, 120, 121, 126, 127, 128, 129, 183, 184, 191, 192, 193}

// known are texts with their digests to base 16, as they are published.
var known = map[string]string{
	"":    "e3b0c44298fc1c149afbf4c8996fb92427ae41e4649b934ca495991b7852b855",
	"a":   "ca978112ca1bbdcafac231b39a23dc4da786eff8147c4e72b9807785afee48bb",
	"abc": "ba7816bf8f01cfea414140de5dae2223b00361a396177a9cb410ff61f20015ad",
	"The quick brown fox jumps over the lazy dog":                                                                      "d7a8fbb307d7809469ca9abcb0082e4f8d5651e46d3cdb762d02d0bf37c9e592",
	"abcdbcdecdefdefgefghfghighijhijkijkljklmklmnlmnomnopnopq":                                                         "248d6a61d20638b8e5c026930c3e6039a33ce45964ff2167f6ecedd419db06c1",
	"abcdefghbcdefghicdefghijdefghijkefghijklfghijklmghijklmnhijklmnoijklmnopjklmnopqklmnopqrlmnopqrsmnopqrstnopqrstu": "cf5b16a778af8380036ce59e7b0492370b249b11e8f07a51afac45037afee9d1",
	"\x00":                     "6e340b9cffb37a989ca544e6bb780a2c78901d3fb33738768511a30617afa01d",
	"\xbd":                     "68325720aabd7c82f30f554b313d0570c95accbb7dc4b5aae11204c08ffe732b",
	"\xc9\x8c\x8e\x55":         "7abc22c0ae5af26ce93dbb94433a0e0b2e119d014f8e7f65bd56c61ccccd9504",
	strings.Repeat("\x00", 55): "02779466cdec163811d078815c633f21901413081449002f24aa3e80f0b88ef7",
	strings.Repeat("\x00", 56): "d4817aa5497628e7c77e6b606107042bbba3130888c5f47a375e6179be789fbb",
	strings.Repeat("\x00", 57): "65a16cb7861335d5ace3c60718b5052e44660726da4cd13bb745381b235a1785",
	strings.Repeat("\x00", 64): "f5a5fd42d16a20302798ef6ed309979b43003d2320d9f0e8ea9831a92759fb4b",
}

// sampleTexts have all lengths from 0 to 200, and bytes that are no right UTF-8.
func sampleTexts() []string {
	texts := []string{"\x80", "\xc3\x28", "a\xe2\x82", "\xed\xa0\x80", "\xf5\xff\xfe", "\u00e9\u20ac\U0001f511"}
	rng := rand.New(rand.NewSource(3))
	for n := range 201 {
		b := make([]byte, n)
		rng.Read(b)
		texts = append(texts, string(b), strings.Repeat("\x00", n), strings.Repeat("\xff", n), strings.Repeat("k", n))
	}
	return texts
}

// another answers the digest as the library makes it.
func another(s string) string {
	sum := sha256.Sum256([]byte(s))
	return string(sum[:])
}

func checkHash(t *testing.T, what string, h *Hash, all string) {
	t.Helper()
	if got, want := h.Sum(), another(all); got != want {
		t.Errorf("%s: the digest of %x is %x, not %x", what, all, got, want)
	}
	if h.Len() != len(all) {
		t.Errorf("%s: Len is %d, not %d", what, h.Len(), len(all))
	}
}

func TestKnownDigests(t *testing.T) {
	for s, want := range known {
		if got := Hex(Sum(s)); got != want {
			t.Errorf("the digest of %q is %s, not %s", s, got, want)
		}
	}
}

func TestAMillionTimesA(t *testing.T) {
	want := "cdc76e5c9914fb9281a1c7e284d73e67f1809a48a497200e046d39ccc7112cd0"
	long := strings.Repeat("a", 1000000)
	if got := Hex(Sum(long)); got != want {
		t.Errorf("%s, not %s", got, want)
	}
	h := New()
	for range 1000 {
		h.Write(long[:1000])
	}
	if got := Hex(h.Sum()); got != want || h.Len() != 1000000 {
		t.Errorf("in parts: %s of %d bytes, not %s", got, h.Len(), want)
	}
}

func TestDigestsAsOthersMakeThem(t *testing.T) {
	for _, s := range sampleTexts() {
		got := Sum(s)
		if len(got) != 32 || got != another(s) {
			t.Errorf("the digest of %x is %x, not %x", s, got, another(s))
		}
	}
}

func TestDigestOfEachByte(t *testing.T) {
	for b := range 256 {
		s := string([]byte{byte(b)})
		if got := Sum(s); got != another(s) {
			t.Errorf("the digest of %x is %x, not %x", s, got, another(s))
		}
	}
}

// rootBits answers the first 32 bits behind the point of the root of p, taken that often.
func rootBits(p, degree int64) uint32 {
	power := big.NewInt(degree)
	target := new(big.Int).Lsh(big.NewInt(p), uint(32*degree))
	low, high := big.NewInt(0), new(big.Int).Lsh(big.NewInt(p), 32)
	for low.Cmp(high) < 0 { // the greatest number whose power isn't above the target
		middle := new(big.Int).Add(low, high)
		middle.Add(middle, big.NewInt(1)).Rsh(middle, 1)
		if new(big.Int).Exp(middle, power, nil).Cmp(target) <= 0 {
			low = middle
		} else {
			high = new(big.Int).Sub(middle, big.NewInt(1))
		}
	}
	return uint32(low.Uint64())
}

func TestStartAndConstantsAreRoots(t *testing.T) {
	var primes []int64
	for n := int64(2); len(primes) < 64; n++ {
		if big.NewInt(n).ProbablyPrime(0) {
			primes = append(primes, n)
		}
	}
	for i, word := range start() {
		if want := rootBits(primes[i], 2); word != want {
			t.Errorf("the start's word %d is %08x, not %08x", i, word, want)
		}
	}
	for i, word := range constants {
		if want := rootBits(primes[i], 3); word != want {
			t.Errorf("the constant %d is %08x, not %08x", i, word, want)
		}
	}
}

func TestPartedAnywhere(t *testing.T) {
	for _, s := range sampleTexts() {
		for i := range len(s) + 1 {
			h := New()
			h.Write(s[:i])
			h.Write(s[i:])
			if h.Sum() != another(s) || h.Len() != len(s) {
				t.Fatalf("%x, parted at %d: %x of %d bytes", s, i, h.Sum(), h.Len())
			}
		}
	}
}

func TestPartsOfEachSize(t *testing.T) {
	s := sampleTexts()[6+4*200]
	for size := 1; size <= len(s); size++ {
		h := New()
		for i := 0; i < len(s); i += size {
			h.Write(s[i:min(i+size, len(s))])
		}
		checkHash(t, "parts of one size", h, s)
	}
}

func TestSumInBetween(t *testing.T) {
	for _, step := range []int{1, 3, 55, 56, 63, 64, 65, 119, 120, 128} {
		h, all := New(), ""
		for i := range 12 {
			checkHash(t, "ahead", h, all)
			checkHash(t, "again", h, all)
			more := strings.Repeat(string([]byte{byte(i * 23)}), step)
			h.Write(more)
			all += more
			checkHash(t, "behind", h, all)
			h.Write("")
			checkHash(t, "behind an empty text", h, all)
		}
	}
}

func TestLenBehindEachWrite(t *testing.T) {
	h, want := New(), 0
	for _, n := range edges {
		h.Write(strings.Repeat("\xe2", n))
		want += n
		if h.Len() != want {
			t.Errorf("Len is %d, not %d", h.Len(), want)
		}
	}
}

func TestEdgesOfThePadding(t *testing.T) {
	for _, n := range edges {
		for _, b := range []string{"\x00", "x", "\x7f", "\x80", "\xff"} {
			s := strings.Repeat(b, n)
			h := New()
			h.Write(s[:n/3])
			h.Write("")
			h.Write(s[n/3:])
			checkHash(t, "at the edge", h, s)
			if Sum(s) != another(s) {
				t.Errorf("the digest of %d times %x is %x", n, b, Sum(s))
			}
		}
	}
}

func TestNewHash(t *testing.T) {
	h := New()
	if h == nil {
		t.Fatal("New is nil")
	}
	checkHash(t, "new", h, "")
	h.Write("")
	checkHash(t, "an empty text came", h, "")
	h.Write("abc")
	checkHash(t, "more came", h, "abc")
}

func TestZeroHashIsANewOne(t *testing.T) {
	var h Hash
	checkHash(t, "zero", &h, "")
	h.Write("abc")
	checkHash(t, "more came", &h, "abc")
}

func TestSideBySide(t *testing.T) {
	a, b := New(), New()
	var ofA, ofB string
	for i := range 150 {
		a.Write("a")
		b.Write("bc"[:i%3])
		ofA, ofB = ofA+"a", ofB+"bc"[:i%3]
		checkHash(t, "the first", a, ofA)
		checkHash(t, "the second", b, ofB)
	}
	checkHash(t, "one that came later", New(), "")
}

func TestCopiesStayApart(t *testing.T) {
	for _, n := range edges {
		s := strings.Repeat("k", n)
		h := New()
		h.Write(s)
		other := *h
		other.Write("other")
		h.Write("this one")
		checkHash(t, "the copy", &other, s+"other")
		checkHash(t, "what was copied", h, s+"this one")
	}
}

// farAlong answers a Hash of which size bytes came, and the library's in the same state.
func farAlong(t *testing.T, size int) (*Hash, encoding.BinaryUnmarshaler) {
	h := &Hash{words: start(), size: size}
	for i := range size % blockSize {
		h.block[i] = byte(i * 7)
	}
	state := []byte("sha\x03")
	for _, w := range h.words {
		state = binary.BigEndian.AppendUint32(state, w)
	}
	state = append(state, h.block[:]...)
	state = binary.BigEndian.AppendUint64(state, uint64(size))
	lib := sha256.New().(encoding.BinaryUnmarshaler)
	if err := lib.UnmarshalBinary(state); err != nil {
		t.Fatal(err)
	}
	return h, lib
}

// The length in bits needs more than four bytes from 2^29 bytes on.
func TestVeryManyBytes(t *testing.T) {
	for _, size := range []int{1 << 13, 1 << 21, 1<<29 - 1, 1 << 29, 1<<29 + 55, 1<<29 + 56, 1 << 30, 1<<31 - 1} {
		h, lib := farAlong(t, size)
		want := lib.(interface{ Sum([]byte) []byte }).Sum(nil)
		if got := h.Sum(); got != string(want) {
			t.Errorf("%d bytes: %x, not %x", size, got, want)
		}
		if h.Len() != size {
			t.Errorf("%d bytes: Len is %d", size, h.Len())
		}
	}
}

func TestHex(t *testing.T) {
	for s, want := range map[string]string{
		"":                 "",
		"\x00":             "00",
		"\xff":             "ff",
		"\x00\xff\x1a":     "00ff1a",
		"\x00\x00\xff\xff": "0000ffff",
		"\x0f\xf0":         "0ff0",
		"abc":              "616263",
		"\xe2\x82":         "e282",
		"\u20ac":           "e282ac",
		"\xc3\x28\x80":     "c32880",
		"\x9a\xbc\xde\xf0": "9abcdef0",
	} {
		if got := Hex(s); got != want {
			t.Errorf("Hex(%q) is %q, not %q", s, got, want)
		}
	}
	for _, s := range sampleTexts() {
		if got, want := Hex(s), hex.EncodeToString([]byte(s)); got != want {
			t.Errorf("Hex(%q) is %q, not %q", s, got, want)
		}
	}
	for b := range 256 {
		s := string([]byte{byte(b)})
		if got, want := Hex(s), hex.EncodeToString([]byte(s)); got != want {
			t.Errorf("Hex(%q) is %q, not %q", s, got, want)
		}
	}
}

func TestNilHash(t *testing.T) {
	var h *Hash
	for _, s := range []string{"", "abc", strings.Repeat("x", 200)} {
		h.Write(s)
		if h != nil || h.Sum() != "" || h.Len() != 0 {
			t.Errorf("behind Write(%q) of a nil *Hash: %v, %q, %d", s, h, h.Sum(), h.Len())
		}
	}
}

func TestOneBitTurned(t *testing.T) {
	for _, n := range []int{1, 3, 55, 56, 64, 65, 120} {
		s := strings.Repeat("q", n)
		for place := range 8 * n {
			b := []byte(s)
			b[place/8] ^= 1 << (place % 8)
			if Sum(string(b)) == Sum(s) {
				t.Errorf("%x and %x have one digest", s, b)
			}
		}
	}
}

func TestLongerByAByte(t *testing.T) {
	for _, n := range edges {
		for _, b := range []string{"\x00", "x", "\x80"} {
			s := strings.Repeat(b, n)
			for _, more := range []string{"\x00", "\x80", "\x80\x00"} {
				if Sum(s+more) == Sum(s) {
					t.Errorf("%x and %x have one digest", s, s+more)
				}
			}
			if n > 0 && Sum(s[1:]) == Sum(s) {
				t.Errorf("%x and %x have one digest", s, s[1:])
			}
		}
	}
}

func TestSameAnswerAgain(t *testing.T) {
	for s := range known {
		first := Sum(s)
		Sum("between " + s)
		if again := Sum(s); again != first {
			t.Errorf("the digest of %q is %x, then %x", s, first, again)
		}
	}
}
