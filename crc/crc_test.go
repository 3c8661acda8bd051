package crc

import (
	"hash/crc32"
	"math/bits"
	"math/rand"
	"strings"
	"testing"
)

// sumCases are texts with their sums, ordinary ones first, then the edges.
var sumCases = []struct {
	s   string
	sum uint32
}{
	{"123456789", 0xCBF43926},
	{"a", 0xE8B7BE43},
	{"abc", 0x352441C2},
	{"The quick brown fox jumps over the lazy dog", 0x414FA339},
	{"", 0},
	{"\x00", 0xD202EF8D},
	{"\xff", 0xFF000000},
	{"\x00\x00\x00\x00", 0x2144DF1C},
	{"\xff\xff\xff\xff", 0xFFFFFFFF},
	{"62", 0x0012D20A},
	{"16660", 0x0000F9AD},
	{"10025621", 0x00000069},
	{"\x9d\x0a\xd9\x6d", 0x00000000},
	{"\xdc\x0c\xa8\xb6", 0x00000001},
	{"\x4e\x85\xec\x36", 0x80000000},
}

// sampleTexts have all lengths from 0 to 40 and bytes that are no right UTF-8.
func sampleTexts() []string {
	texts := []string{"", "\x80", "\xc3\x28", "a\xe2\x82", "\xed\xa0\x80", "\xf5\xff\xfe", "\u00e9\u20ac\U0001f511"}
	for _, c := range sumCases {
		texts = append(texts, c.s)
	}
	rng := rand.New(rand.NewSource(2))
	for n := range 41 {
		b := make([]byte, n)
		rng.Read(b)
		texts = append(texts, string(b), strings.Repeat("\x00", n), strings.Repeat("\xff", n), strings.Repeat("k", n))
	}
	return texts
}

// turned answers s with the bits turned that are set in turn, of which the lowest stands for the
// bit at place: of the bytes one behind the other, in each the lowest bit first, as the state takes them.
func turned(s string, place int, turn uint32) string {
	b := []byte(s)
	for k := range 32 {
		if turn>>k&1 == 1 {
			at := place + k
			b[at/8] ^= 1 << (at % 8)
		}
	}
	return string(b)
}

func checkRefused(t *testing.T, what, s string) {
	t.Helper()
	if got, ok := Open(s); got != "" || ok {
		t.Errorf("%s: Open(%x) is %x, %v", what, s, got, ok)
	}
}

func checkOpens(t *testing.T, sealed, want string) {
	t.Helper()
	if got, ok := Open(sealed); got != want || !ok {
		t.Errorf("Open(%x) is %x, %v, not %x, true", sealed, got, ok, want)
	}
}

func TestSums(t *testing.T) {
	for _, c := range sumCases {
		if got := Of(c.s); got != c.sum {
			t.Errorf("Of(%q) is %08X, not %08X", c.s, got, c.sum)
		}
	}
}

func TestSumOfEachByte(t *testing.T) {
	for b := range 256 {
		s := string([]byte{byte(b)})
		if got, want := Of(s), crc32.ChecksumIEEE([]byte(s)); got != want {
			t.Errorf("Of(%x) is %08X, not %08X", s, got, want)
		}
	}
}

func TestSumsAsOthersMakeThem(t *testing.T) {
	long := strings.Repeat("what is asked for is done once\n", 3000)
	for _, s := range append(sampleTexts(), long) {
		if got, want := Of(s), crc32.ChecksumIEEE([]byte(s)); got != want {
			t.Errorf("Of(%x) is %08X, not %08X", s, got, want)
		}
	}
}

func TestSameAnswerAgain(t *testing.T) {
	for _, c := range sumCases {
		first := Of(c.s)
		Seal("between " + c.s)
		if again := Of(c.s); again != first {
			t.Errorf("Of(%q) is %08X, then %08X", c.s, first, again)
		}
	}
}

func TestNextWhereverParted(t *testing.T) {
	for _, s := range sampleTexts() {
		for i := range len(s) + 1 {
			if got := Next(Of(s[:i]), s[i:]); got != Of(s) {
				t.Errorf("%x, parted at %d: %08X, not %08X", s, i, got, Of(s))
			}
		}
	}
}

func TestNextOfManyParts(t *testing.T) {
	for _, s := range sampleTexts() {
		sum := Of("")
		for i := range len(s) {
			sum = Next(sum, s[i:i+1])
			sum = Next(sum, "")
		}
		if sum != Of(s) {
			t.Errorf("%x, byte by byte: %08X, not %08X", s, sum, Of(s))
		}
	}
}

func TestNextFromAnyNumber(t *testing.T) {
	for _, sum := range []uint32{0, 1, 7, 0xFF, 0x100, 0x7FFFFFFF, 0x80000000, 0xEDB88320, 0xCBF43926, 0xFFFFFFFE, 0xFFFFFFFF} {
		if got := Next(sum, ""); got != sum {
			t.Errorf("Next(%08X, \"\") is %08X", sum, got)
		}
		for _, s := range sampleTexts() {
			if got, want := Next(sum, s), crc32.Update(sum, crc32.IEEETable, []byte(s)); got != want {
				t.Errorf("Next(%08X, %x) is %08X, not %08X", sum, s, got, want)
			}
		}
	}
}

func TestSealWritesTheSumHighestFirst(t *testing.T) {
	for s, want := range map[string]string{
		"":                 "\x00\x00\x00\x00",
		"a":                "a\xe8\xb7\xbe\x43",
		"abc":              "abc\x35\x24\x41\xc2",
		"123456789":        "123456789\xcb\xf4\x39\x26",
		"62":               "62\x00\x12\xd2\x0a",
		"16660":            "16660\x00\x00\xf9\xad",
		"10025621":         "10025621\x00\x00\x00\x69",
		"\x9d\x0a\xd9\x6d": "\x9d\x0a\xd9\x6d\x00\x00\x00\x00",
		"\xff\xff\xff\xff": "\xff\xff\xff\xff\xff\xff\xff\xff",
	} {
		if got := Seal(s); got != want {
			t.Errorf("Seal(%x) is %x, not %x", s, got, want)
		}
		checkOpens(t, want, s)
	}
}

func TestSealedOpensAgain(t *testing.T) {
	for _, s := range sampleTexts() {
		checkOpens(t, Seal(s), s)
		checkOpens(t, Seal(Seal(s)), Seal(s))
	}
}

func TestOpenOfFewBytes(t *testing.T) {
	checkRefused(t, "no bytes", "")
	for _, b := range []string{"\x00", "\xff", "a"} {
		for n := range 3 {
			checkRefused(t, "fewer than a sum", strings.Repeat(b, n+1))
		}
	}
	checkOpens(t, "\x00\x00\x00\x00", "")
	for _, s := range []string{"\x00\x00\x00\x01", "\x01\x00\x00\x00", "\xff\xff\xff\xff", "abcd"} {
		checkRefused(t, "no sum of the empty text", s)
	}
	for b := range 256 {
		s := string([]byte{byte(b)})
		checkOpens(t, Seal(s), s)
		checkRefused(t, "a byte and a sum of 0", s+"\x00\x00\x00\x00")
	}
}

func TestOneBitTurned(t *testing.T) {
	for _, s := range sampleTexts() {
		sealed := Seal(s)
		for place := range 8 * len(sealed) {
			checkRefused(t, "a bit turned", turned(sealed, place, 1))
		}
	}
}

func TestCutShort(t *testing.T) {
	for _, s := range []string{"", "a", "abc", "123456789", "16660", "\x80\xfe"} {
		sealed := Seal(s)
		for n := range len(sealed) {
			checkRefused(t, "cut short behind", sealed[:n])
			checkRefused(t, "cut short ahead", sealed[n+1:])
		}
	}
}

func TestLongerByAByte(t *testing.T) {
	for _, s := range []string{"a", "abc", "123456789", "16660", "\x80\xfe"} {
		sealed := Seal(s)
		for b := range 256 {
			more := string([]byte{byte(b)})
			checkRefused(t, "a byte more behind", sealed+more)
			checkRefused(t, "a byte more ahead", more+sealed)
			checkRefused(t, "a byte more between", s+more+sealed[len(s):])
		}
	}
}

func TestSumTheOtherWayRound(t *testing.T) {
	for _, s := range []string{"a", "abc", "123456789", "62", "16660", "10025621", "\xff", "\x80\xfe"} {
		sum := Of(s)
		wrong := string([]byte{byte(sum), byte(sum >> 8), byte(sum >> 16), byte(sum >> 24)})
		checkRefused(t, "the sum's lowest byte first", s+wrong)
		checkRefused(t, "the sum ahead of the text", Seal(s)[len(s):]+s)
	}
}

func TestAnotherTextsSum(t *testing.T) {
	for _, s := range []string{"a", "abc", "123456789", "\x80\xfe"} {
		sealed := Seal(s)
		checkRefused(t, "a text with another's sum", s+"b"+sealed[len(s):])
		checkRefused(t, "a sum that isn't turned", s+sumBytes(^Of(s)))
	}
}

// turns are patterns of up to 32 bits of which the first and the last are turned.
func turns(width int, rng *rand.Rand) []uint32 {
	ends := uint32(1) | uint32(1)<<(width-1)
	all := ^uint32(0) >> (32 - width)
	some := []uint32{ends, all}
	for range 20 {
		some = append(some, rng.Uint32()&all|ends)
	}
	return some
}

func TestBitsSideBySideTurned(t *testing.T) {
	rng := rand.New(rand.NewSource(32))
	for _, s := range []string{"", "a", "ab", "abc", "abcd", "abcde", "123456789", "\x9d\x0a\xd9\x6d", strings.Repeat("\x00", 12), strings.Repeat("\xff", 12)} {
		for width := 1; width <= 32; width++ {
			for place := range 8*len(s) - width + 1 {
				for _, turn := range turns(width, rng) {
					if other := turned(s, place, turn); Of(other) == Of(s) {
						t.Fatalf("%x and %x have one sum", s, other)
					}
				}
			}
		}
	}
}

// A turn changes the sum by the changes of its bits, xor'ed: if those of 32 bits side by side are
// independent of each other, then no turn of some of them leaves the sum as it was.
func TestEachTurnOf32BitsSideBySide(t *testing.T) {
	for _, s := range []string{"abcd", "abcde", "123456789", "\x00\xff\x80\x7f\xfe\x01\x9d\x0a\xd9\x6d\xe2\x82"} {
		for place := range 8*len(s) - 31 {
			var changes []uint32
			for k := range 32 {
				changes = append(changes, Of(turned(s, place+k, 1))^Of(s))
			}
			checkIndependent(t, s, place, changes)
			checkXor(t, s, place, changes)
		}
	}
}

func checkIndependent(t *testing.T, s string, place int, changes []uint32) {
	t.Helper()
	var byTop [33]uint32 // by how many bits it has, one that was kept
	for _, c := range changes {
		for c != 0 && byTop[bits.Len32(c)] != 0 {
			c ^= byTop[bits.Len32(c)]
		}
		if c == 0 {
			t.Fatalf("%x: bits from %d on can be turned and leave the sum", s, place)
		}
		byTop[bits.Len32(c)] = c
	}
}

func checkXor(t *testing.T, s string, place int, changes []uint32) {
	t.Helper()
	rng := rand.New(rand.NewSource(int64(place)))
	for range 50 {
		turn := rng.Uint32()
		want := Of(s)
		for k, c := range changes {
			if turn>>k&1 == 1 {
				want ^= c
			}
		}
		if got := Of(turned(s, place, turn)); got != want {
			t.Fatalf("%x: the turn %08X at %d makes the sum %08X, not %08X", s, turn, place, got, want)
		}
	}
}
