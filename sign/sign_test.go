package sign

import (
	"math"
	"math/rand"
	"slices"
	"strings"
	"testing"
	"unicode/utf8"
)

// spans are the sorts as the document gives them, range by range; what is in none of these is of sort 4.
var spans = []struct {
	first, last rune
	sort        int
}{
	{math.MinInt32, 0x1F, 0}, {0x7F, 0x9F, 0}, {0xD800, 0xDFFF, 0}, {0xFFFD, 0xFFFD, 0}, {0x110000, math.MaxInt32, 0},
	{0x20, 0x20, 1}, {0xA0, 0xA0, 1}, {0x2000, 0x200A, 1}, {0x3000, 0x3000, 1},
	{0x30, 0x39, 2},
	{0x41, 0x5A, 3}, {0x61, 0x7A, 3}, {0xC0, 0xD6, 3}, {0xD8, 0xF6, 3}, {0xF8, 0x24F, 3}, {0x391, 0x3A1, 3}, {0x3A3, 0x3C9, 3},
}

// great are the letters that Fold changes.
var great = []struct{ first, last rune }{{0x41, 0x5A}, {0xC0, 0xD6}, {0xD8, 0xDE}, {0x391, 0x3A1}, {0x3A3, 0x3A9}}

// noCodePoints are numbers that are none.
var noCodePoints = []rune{math.MinInt32, math.MinInt32 + 1, -0x10FFFF, -32, -1, 0xD800, 0xDB7F, 0xDBFF, 0xDC00, 0xDFFF, 0x110000, 0x110020, math.MaxInt32}

// extremes are numbers that any argument may be.
var extremes = []int{math.MinInt, math.MinInt + 1, -1 << 32, -2, -1, 0, 1, 2, 3, 4, 5, 1 << 32, math.MaxInt - 1, math.MaxInt}

// wrong are bytes that are no right UTF-8, with how many signs U+FFFD they are: a byte each.
var wrong = []struct {
	what, s string
	signs   int
}{
	{"a byte 128 alone", "\x80", 1},
	{"a byte 191 alone", "\xbf", 1},
	{"a byte 255 alone", "\xff", 1},
	{"a byte 254 alone", "\xfe", 1},
	{"two bytes that go on", "\x80\xbf", 2},
	{"the first of two", "\xc3", 1},
	{"the first of three", "\xe2", 1},
	{"two of three", "\xe2\x82", 2},
	{"the first of four", "\xf0", 1},
	{"two of four", "\xf0\x9f", 2},
	{"three of four", "\xf0\x9f\x94", 3},
	{"a blank, overlong in two", "\xc0\xa0", 2},
	{"a /, overlong in two", "\xc0\xaf", 2},
	{"an A, overlong in two", "\xc1\x81", 2},
	{"an Ä, overlong in three", "\xe0\x83\x84", 3},
	{"an A, overlong in four", "\xf0\x80\x81\x81", 4},
	{"the first surrogate", "\xed\xa0\x80", 3},
	{"the last surrogate", "\xed\xbf\xbf", 3},
	{"U+110000", "\xf4\x90\x80\x80", 4},
	{"five bytes", "\xf8\x88\x80\x80\x80", 5},
}

// mixed has signs of one, two, three and four bytes, of all sorts.
const mixed = "aÄ €\U0001F511\u3000\uFFFD\u00a09\n"

func wantSort(r rune) int {
	for _, s := range spans {
		if s.first <= r && r <= s.last {
			return s.sort
		}
	}
	return 4
}

func wantFolded(r rune) rune {
	for _, g := range great {
		if g.first <= r && r <= g.last {
			return r + 32
		}
	}
	return r
}

// piece is a sign with the bytes it stands for.
type piece struct {
	sign  rune
	bytes string
}

// pieces takes a text apart by the bit patterns of UTF-8, and by nothing of the language's own.
func pieces(s string) []piece {
	var out []piece
	for i := 0; i < len(s); {
		p := firstPiece(s[i:])
		out = append(out, p)
		i += len(p.bytes)
	}
	return out
}

func firstPiece(s string) piece {
	bare := piece{0xFFFD, s[:1]}
	first := rune(s[0])
	var size int
	var r, least rune
	switch {
	case first < 0x80:
		return piece{first, s[:1]}
	case first>>5 == 0b110:
		size, r, least = 2, first&0x1F, 0x80
	case first>>4 == 0b1110:
		size, r, least = 3, first&0x0F, 0x800
	case first>>3 == 0b11110:
		size, r, least = 4, first&0x07, 0x10000
	default:
		return bare
	}
	if len(s) < size {
		return bare
	}
	for i := 1; i < size; i++ {
		if s[i]>>6 != 0b10 {
			return bare
		}
		r = r<<6 | rune(s[i]&0x3F)
	}
	if r < least || r > 0x10FFFF || 0xD800 <= r && r <= 0xDFFF {
		return bare
	}
	return piece{r, s[:size]}
}

func wantRight(s string, most int) bool {
	for _, p := range pieces(s) {
		if wantSort(p.sign) == 0 {
			return false
		}
	}
	return 1 <= len(s) && len(s) <= most
}

func wantCut(s string, n int) string {
	out := ""
	for i, p := range pieces(s) {
		if i < n {
			out += p.bytes
		}
	}
	return out
}

func wantWords(s string) []string {
	var out []string
	word := ""
	for _, p := range append(pieces(s), piece{' ', " "}) {
		if wantSort(p.sign) != 1 {
			word += p.bytes
			continue
		}
		if word != "" {
			out = append(out, word)
		}
		word = ""
	}
	return out
}

func wantFind(s string, r rune) int {
	return slices.IndexFunc(pieces(s), func(p piece) bool { return p.sign == r })
}

func wantOnly(s string, sorts []int) bool {
	for _, p := range pieces(s) {
		if !slices.Contains(sorts, wantSort(p.sign)) {
			return false
		}
	}
	return true
}

// encoded lays signs behind one another.
func encoded(signs []rune) string {
	out := ""
	for _, r := range signs {
		out += string(r)
	}
	return out
}

func wantFold(s string) string {
	var signs []rune
	for _, p := range pieces(s) {
		signs = append(signs, wantFolded(p.sign))
	}
	return encoded(signs)
}

func wantTurn(s string) string {
	var signs []rune
	for _, p := range pieces(s) {
		signs = append([]rune{p.sign}, signs...)
	}
	return encoded(signs)
}

// sampleTexts are ordinary ones, wrong ones with and without neighbours, and such as are put together by lot.
func sampleTexts() []string {
	texts := []string{"", "a", " ", "  ", "Ä", "€", "\U0001F511", "\uFFFD", "\x00", mixed, "Ärger", "  one\u00a0two\u3000 three", "AZaz ÀÞ×ß ΑΩω1"}
	for _, w := range wrong {
		texts = append(texts, w.s, "a"+w.s, w.s+"Ä", "€"+w.s+"z", " "+w.s+" ", w.s+w.s, "\U0001F511"+w.s+"\u3000")
	}
	parts := []string{"a", "Z", "0", " ", "\u00a0", "\u2003", "\u3000", "Ä", "×", "Ω", "€", "\U0001F511", "\uFFFD", "\n", "-", "\x80", "\xc3", "\xe2\x82", "\xed\xa0\x80", "\xff"}
	rng := rand.New(rand.NewSource(4))
	for range 2000 {
		s := ""
		for range rng.Intn(12) {
			s += parts[rng.Intn(len(parts))]
		}
		b := make([]byte, rng.Intn(12))
		rng.Read(b)
		texts = append(texts, s, string(b))
	}
	return texts
}

func TestSortOfEachSort(t *testing.T) {
	for r, want := range map[rune]int{
		'\n': 0, 0x80: 0, 0xFFFD: 0,
		' ': 1, 0x2003: 1, 0x3000: 1,
		'5': 2,
		'M': 3, 'm': 3, 'Ä': 3, 'ß': 3, 'Ł': 3, 'Σ': 3, 'π': 3,
		'-': 4, '_': 4, '.': 4, '/': 4, '%': 4, '€': 4, 'Ж': 4, 0x1F511: 4, 0x660: 4,
	} {
		if got := Sort(r); got != want {
			t.Errorf("the sort of %U is %d, not %d", r, got, want)
		}
	}
}

func TestSortAtTheEdges(t *testing.T) {
	for r, want := range map[rune]int{
		0: 0, 0x1F: 0, 0x20: 1, 0x21: 4, 0x2F: 4, 0x30: 2, 0x39: 2, 0x3A: 4, 0x40: 4, 0x41: 3, 0x5A: 3, 0x5B: 4,
		0x60: 4, 0x61: 3, 0x7A: 3, 0x7B: 4, 0x7E: 4, 0x7F: 0, 0x80: 0, 0x9F: 0, 0xA0: 1, 0xA1: 4, 0xBF: 4, 0xC0: 3,
		0xD6: 3, 0xD7: 4, 0xD8: 3, 0xF6: 3, 0xF7: 4, 0xF8: 3, 0x24F: 3, 0x250: 4, 0x390: 4, 0x391: 3, 0x3A1: 3, 0x3A2: 4, 0x3A3: 3,
		0x3C9: 3, 0x3CA: 4, 0x1FFF: 4, 0x2000: 1, 0x200A: 1, 0x200B: 4, 0x2FFF: 4, 0x3000: 1, 0x3001: 4,
		0xD7FF: 4, 0xE000: 4, 0xFFFC: 4, 0xFFFD: 0, 0xFFFE: 4, 0xFFFF: 4, 0x10000: 4, 0x10FFFE: 4, 0x10FFFF: 4,
	} {
		if got := Sort(r); got != want {
			t.Errorf("the sort of %U is %d, not %d", r, got, want)
		}
	}
}

func TestSortOfAllCodePoints(t *testing.T) {
	for r := rune(-0x1000); r <= 0x111000; r++ {
		if got, want := Sort(r), wantSort(r); got != want {
			t.Fatalf("the sort of %U is %d, not %d", r, got, want)
		}
	}
}

func TestSortOfNoCodePoints(t *testing.T) {
	for _, r := range noCodePoints {
		if got := Sort(r); got != 0 {
			t.Errorf("the sort of %d is %d", r, got)
		}
	}
	for r := rune(0xD800); r <= 0xDFFF; r++ {
		if got := Sort(r); got != 0 {
			t.Errorf("the sort of %U is %d", r, got)
		}
	}
}

func TestRight(t *testing.T) {
	for s, want := range map[string]bool{
		"abc": true, "a b": true, "Ä€\U0001F511": true, " ": true, "\u3000": true, "-": true, "0": true,
		"a\n": false, "\x00": false, "\x1f": false, "a\x7f": false, "\u0085a": false, "\u009f": false, "a\uFFFDb": false,
	} {
		if got := Right(s, 60); got != want {
			t.Errorf("%q: %v", s, got)
		}
	}
}

func TestRightByItsBytes(t *testing.T) {
	for _, s := range []string{"a", "abc", "Ä", "ÄÄ", "€", "\U0001F511", strings.Repeat("€", 20)} {
		for most, want := range map[int]bool{len(s): true, len(s) + 1: true, math.MaxInt: true, len(s) - 1: false, 0: false, -1: false, -len(s): false, math.MinInt: false} {
			if got := Right(s, most); got != want {
				t.Errorf("%q of at most %d bytes: %v", s, most, got)
			}
		}
	}
}

func TestRightOfTheEmptyText(t *testing.T) {
	for _, most := range extremes {
		if Right("", most) {
			t.Errorf("of at most %d", most)
		}
	}
}

func TestCount(t *testing.T) {
	for s, want := range map[string]int{
		"": 0, "a": 1, "Ä": 1, "€": 1, "\U0001F511": 1, "\uFFFD": 1, "\x00": 1, "aÄ€\U0001F511": 4, "a\u0308": 2, "aÄ\xffz": 4, mixed: 10,
	} {
		if got := Count(s); got != want {
			t.Errorf("%q: %d, not %d", s, got, want)
		}
	}
}

func TestCutAtEachSign(t *testing.T) {
	s := "aÄ€\U0001F511z"
	for n, want := range []string{"", "a", "aÄ", "aÄ€", "aÄ€\U0001F511", s, s, s} {
		if got := Cut(s, n); got != want {
			t.Errorf("at %d: %q, not %q", n, got, want)
		}
	}
}

func TestCutAtAnyNumber(t *testing.T) {
	for _, s := range []string{"", "a", "Ä", "aÄ", "Äa\xff", mixed} {
		for _, n := range extremes {
			if got, want := Cut(s, n), wantCut(s, n); got != want {
				t.Errorf("%q at %d: %q, not %q", s, n, got, want)
			}
		}
	}
}

func TestFold(t *testing.T) {
	for s, want := range map[string]string{
		"":           "",
		"Ärger":      "ärger",
		"ABCXYZ":     "abcxyz",
		"abcxyz":     "abcxyz",
		"@AZ[":       "@az[",
		"`az{":       "`az{",
		"¿ÀÖ×ØÞß":    "¿àö×øþß",
		"àö÷øþÿ":     "àö÷øþÿ",
		"ĀŁɏŸ":       "ĀŁɏŸ",
		"ΐΑΡΣΩΪ":     "ΐαρσωΪ",
		"αρςσω":      "αρςσω",
		"\u03a2":     "\u03a2",
		"ЖЯ€":        "ЖЯ€",
		"\U0001F511": "\U0001F511",
		"A \n\u00a0": "a \n\u00a0",
		"\uFFFDA":    "\uFFFDa",
		"AZ\xffÄ":    "az\uFFFDä",
		"\U000E0041": "\U000E0041",
	} {
		if got := Fold(s); got != want {
			t.Errorf("%q: %q, not %q", s, got, want)
		}
	}
}

func TestFoldOfAllCodePoints(t *testing.T) {
	for r := rune(0); r <= 0x10FFFF; r++ {
		if !utf8.ValidRune(r) {
			continue
		}
		if got, want := Fold(string(r)), string(wantFolded(r)); got != want {
			t.Fatalf("%U: %q, not %q", r, got, want)
		}
	}
}

func TestWords(t *testing.T) {
	for s, want := range map[string][]string{
		"":                                nil,
		" ":                               nil,
		" \u00a0\u2000\u200a\u3000":       nil,
		"one":                             {"one"},
		"one two":                         {"one", "two"},
		" one":                            {"one"},
		"one ":                            {"one"},
		"   one   two   ":                 {"one", "two"},
		"  one\u00a0two\u3000 three":      {"one", "two", "three"},
		"a\u2000Ä\u200a€\u2005\U0001F511": {"a", "Ä", "€", "\U0001F511"},
		"\u3000\u3000a\u3000\u3000":       {"a"},
		"a\u200bb":                        {"a\u200bb"},
		"a\tb\nc\u2028d":                  {"a\tb\nc\u2028d"},
		"a a a":                           {"a", "a", "a"},
		"\xff \xc2 a\xa0b":                {"\xff", "\xc2", "a\xa0b"},
		"\uFFFD \uFFFD":                   {"\uFFFD", "\uFFFD"},
	} {
		if got := Words(s); !slices.Equal(got, want) {
			t.Errorf("%q: %q, not %q", s, got, want)
		}
	}
}

func TestWordsAreTheCallersOwn(t *testing.T) {
	s := "one two three"
	first := Words(s)
	first[0], first[2] = "x", "y"
	if got := Words(s); !slices.Equal(got, []string{"one", "two", "three"}) {
		t.Errorf("%q", got)
	}
}

func TestFind(t *testing.T) {
	for _, c := range []struct {
		s    string
		r    rune
		want int
	}{
		{"aÄz", 'z', 2}, {"aÄz", 'a', 0}, {"aÄz", 'Ä', 1}, {"€\U0001F511z", 'z', 2}, {"€\U0001F511z", 0x1F511, 1},
		{"abcabc", 'b', 1}, {"ÄbÄ", 'Ä', 0}, {"zzz", 'z', 0},
		{"abc", 'x', -1}, {"abc", 'A', -1}, {"Ä", 0xC3, -1}, {"", 'a', -1}, {"", 0xFFFD, -1}, {"", -1, -1}, {"a\x00", 0, 1},
		{"a\uFFFD", 0xFFFD, 1}, {"a\xff", 0xFFFD, 1}, {"\xe2\x82z", 'z', 2}, {"aÄ\x80\uFFFD", 0xFFFD, 2}, {"abc", 0xFFFD, -1},
		{"a\xffb", 0xFF, -1}, {"\x80", 0x80, -1}, {"\u0080", 0x80, 0}, {"\xed\xa0\x80", 0xD800, -1}, {"\xf4\x90\x80\x80", 0x110000, -1},
	} {
		if got := Find(c.s, c.r); got != c.want {
			t.Errorf("%U in %q: %d, not %d", c.r, c.s, got, c.want)
		}
	}
}

func TestFindOfNoCodePoint(t *testing.T) {
	for _, s := range sampleTexts() {
		for _, r := range noCodePoints {
			if got := Find(s, r); got != -1 {
				t.Errorf("%d in %q: %d", r, s, got)
			}
		}
	}
}

func TestOnly(t *testing.T) {
	for _, c := range []struct {
		s     string
		sorts []int
		want  bool
	}{
		{"abc", []int{3}, true}, {"äΩ", []int{3}, true}, {"123", []int{2}, true}, {" \u3000", []int{1}, true}, {"\n\uFFFD\x7f", []int{0}, true}, {"-€\U0001F511", []int{4}, true},
		{"abc1", []int{3}, false}, {"1abc", []int{3}, false}, {"a1c", []int{3}, false}, {"abc", []int{0}, false}, {"abc", []int{2}, false},
		{"a1", []int{2, 3}, true}, {"a1", []int{3, 2}, true}, {"a1", []int{3, 2, 2, 3}, true}, {"a1 ", []int{2, 3}, false}, {mixed, []int{0, 1, 2, 3, 4}, true}, {mixed, []int{4, 3, 1, 0}, false},
		{"a", nil, false}, {"a", []int{}, false}, {" ", nil, false}, {"\xff", nil, false}, {"\x00", nil, false},
		{"", nil, true}, {"", []int{}, true}, {"", []int{3}, true}, {"", []int{-1}, true}, {"", []int{0, 1, 2, 3, 4}, true},
		{"a", []int{-1, 5, 35, math.MinInt, math.MaxInt}, false}, {"a", []int{-1, 5, 3}, true},
		{"a\xff", []int{3}, false}, {"a\xff", []int{0, 3}, true}, {"\xed\xa0\x80", []int{0}, true}, {"\xc0\xa0", []int{1}, false},
	} {
		if got := Only(c.s, c.sorts...); got != c.want {
			t.Errorf("%q of %v: %v", c.s, c.sorts, got)
		}
	}
}

func TestOnlyLeavesTheSorts(t *testing.T) {
	sorts := []int{4, 3, 9, 0, -1}
	Only("a-\n", sorts...)
	if !slices.Equal(sorts, []int{4, 3, 9, 0, -1}) {
		t.Errorf("%v", sorts)
	}
}

func TestTurn(t *testing.T) {
	for s, want := range map[string]string{
		"": "", "a": "a", "abc": "cba", "aÄ€\U0001F511": "\U0001F511€Äa", "\U0001F511a\U0001F511b": "b\U0001F511a\U0001F511",
		"aÄ\xff": "\uFFFDÄa", "\xe2\x82a": "a\uFFFD\uFFFD", "a\uFFFDb": "b\uFFFDa", "\x00\n": "\n\x00", "a\u0308": "\u0308a",
	} {
		if got := Turn(s); got != want {
			t.Errorf("%q: %q, not %q", s, got, want)
		}
	}
}

func TestBytesThatAreNoRightSigns(t *testing.T) {
	for _, w := range wrong {
		s := "aB" + w.s + " z"
		bad := strings.Repeat("\uFFFD", w.signs)
		if Right(s, 60) || Right(w.s, 60) {
			t.Errorf("%s: Right", w.what)
		}
		if got := Count(s); got != w.signs+4 {
			t.Errorf("%s: Count is %d", w.what, got)
		}
		for n := range w.signs + 1 {
			if got := Cut(s, 2+n); got != "aB"+w.s[:n] {
				t.Errorf("%s: cut at %d: %q", w.what, 2+n, got)
			}
		}
		if got := Fold(s); got != "ab"+bad+" z" {
			t.Errorf("%s: folded: %q", w.what, got)
		}
		if got := Words(s); !slices.Equal(got, []string{"aB" + w.s, "z"}) {
			t.Errorf("%s: Words: %q", w.what, got)
		}
		if Find(s, 0xFFFD) != 2 || Find(s, 'z') != w.signs+3 || Find(s, 'A') != -1 {
			t.Errorf("%s: Find", w.what)
		}
		if !Only(w.s, 0) || Only(w.s, 1, 2, 3, 4) || Only(s, 1, 3, 4) || !Only(s, 0, 1, 3) {
			t.Errorf("%s: Only", w.what)
		}
		if got := Turn(s); got != "z "+bad+"Ba" {
			t.Errorf("%s: turned: %q", w.what, got)
		}
	}
}

func TestAllCallsOfManyTexts(t *testing.T) {
	sorts := [][]int{nil, {0}, {1}, {2}, {3}, {4}, {2, 3}, {1, 2, 3, 4}, {0, 1, 2, 3, 4}, {-1, 5}}
	for _, s := range sampleTexts() {
		for _, n := range append(extremes, len(s)-1, len(s), len(s)+1) {
			if got, want := Right(s, n), wantRight(s, n); got != want {
				t.Errorf("Right(%q, %d) is %v", s, n, got)
			}
			if got, want := Cut(s, n), wantCut(s, n); got != want {
				t.Errorf("Cut(%q, %d) is %q, not %q", s, n, got, want)
			}
		}
		if got, want := Count(s), len(pieces(s)); got != want {
			t.Errorf("Count(%q) is %d, not %d", s, got, want)
		}
		if got, want := Fold(s), wantFold(s); got != want {
			t.Errorf("Fold(%q) is %q, not %q", s, got, want)
		}
		if got, want := Words(s), wantWords(s); !slices.Equal(got, want) {
			t.Errorf("Words(%q) is %q, not %q", s, got, want)
		}
		for _, r := range []rune{'a', 'Z', ' ', 'Ä', '€', 0x1F511, 0xFFFD, 0, 0x80, 0xFF} {
			if got, want := Find(s, r), wantFind(s, r); got != want {
				t.Errorf("Find(%q, %U) is %d, not %d", s, r, got, want)
			}
		}
		for _, l := range sorts {
			if got, want := Only(s, l...), wantOnly(s, l); got != want {
				t.Errorf("Only(%q, %v) is %v", s, l, got)
			}
		}
		if got, want := Turn(s), wantTurn(s); got != want {
			t.Errorf("Turn(%q) is %q, not %q", s, got, want)
		}
	}
}
