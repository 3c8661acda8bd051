package files

import (
	"fmt"
	"math"
	"math/rand"
	"regexp"
	"slices"
	"strconv"
	"strings"
	"testing"

	"concierge/api"
	"concierge/disk"
)

// The limits as the document writes them out, so that the tests do not lean on the program's own.
const (
	lastNumber = 99999
	mostFiles  = 16
	mostBytes  = 60000
)

// numbered is the document's numbered name, apart from how the program reads it.
var numbered = regexp.MustCompile(`\A([a-z]{1,5})\.([1-9][0-9]{0,4})\z`)

var farInts = []int{
	math.MinInt, math.MinInt + 1, -1 << 32, -lastNumber, -10, -2, -1, 0, 1, 2, 9, 10, 11, 12, 99, 100, 9999, 10000,
	lastNumber - 1, lastNumber, lastNumber + 1, 1 << 17, 1<<32 + 1, 1 << 32, 1 << 40, math.MaxInt - 1, math.MaxInt,
}

var rightWords = []string{"a", "z", "m", "ab", "log", "seg", "snap", "abcde", "zzzzz", "aaaaa"}

var wrongWords = []string{
	"", "abcdef", "zzzzzz", strings.Repeat("a", 300), "A", "Z", "Log", "loG", "LOG", "0", "9", "log1", "1log", "l0g",
	".", "log.", ".log", "lo.g", "log.1", "..", " ", "log ", " log", "l g", "\t", "log\n", "\x00", "lo\x00g", "\x7f",
	"@", "[", "`", "{", "a`", "a{", "-", "_", "a-b", "a_b", "/", "*", "ä", "log\u00e9", "\xff", "lo\xc3", "\x80a", "\xed\xa0\x80", "ａ", "а", "ſ", "K",
}

// wrongNames are numbered names of no word.
var wrongNames = []string{
	"", ".", "..", "log", "log.", ".1", "log.0", "log.00", "log.01", "log.001", "log.00001", "log.010", "log.099999",
	"log.100000", "log.999999", "log.1000000", "log.4294967297", "log.18446744073709551617", "log." + strings.Repeat("9", 300),
	"log." + strings.Repeat("0", 300) + "1", "log.+1", "log.-1", "log.-0", "log.+0", "log.1-", "log.1+", "log..1", "log.1.", "log.1.2", ".log.1", "log.log.1",
	"log.1a", "log.a1", "log.a", "log.x", "log.1e1", "log.0x1", "log.0b1", "log.0o7", "log.1_0", "log.1_", "log._1", "log.1,0", "log. 1", "log.1 ", " log.1", "log .1", "log.1\n", "\nlog.1",
	"log.1\x00", "\x00log.1", "log.\x001", "log.٣", "log.１", "log.\xff", "log.1\xff", "\xfflog.1", "log1", "log:1", "log/1", "log,1", "log-1", "log．1",
	"Log.1", "LOG.1", "loG.1", "abcdef.1", "l0g.1", "lo g.1", "lög.1", "1.log", "1.1", "1", "12", "1.log.1",
}

// wantName is the name of a word and a number by the document's words.
func wantName(word string, n int) string {
	name := word + "." + fmt.Sprint(n)
	if !numbered.MatchString(name) {
		return ""
	}
	return name
}

func wantNumber(word, name string) (int, bool) {
	parts := numbered.FindStringSubmatch(name)
	if parts == nil || parts[1] != word {
		return 0, false
	}
	n, err := strconv.Atoi(parts[2])
	return n, err == nil
}

// wantAll puts each number behind the lesser ones, in place of sorting.
func wantAll(d *disk.Disk, word string) []int {
	var all []int
	for _, name := range d.Names() {
		n, ok := wantNumber(word, name)
		if !ok {
			continue
		}
		at := 0
		for at < len(all) && all[at] < n {
			at++
		}
		all = slices.Insert(all, at, n)
	}
	return all
}

func wantSize(d *disk.Disk, word string) int {
	size := 0
	for _, name := range d.Names() {
		if _, ok := wantNumber(word, name); ok {
			text, _ := d.Read(name)
			size += len(text)
		}
	}
	return size
}

// told is all that a disk has, so that what is to stay may be held against what was.
func told(d *disk.Disk) string {
	var b strings.Builder
	for _, name := range d.Names() {
		text, err := d.Read(name)
		fmt.Fprintf(&b, "%s=%q/%d/%d ", name, text, d.Sure(name), err)
	}
	fmt.Fprint(&b, d.Used(), d.Waits(), d.Free(), d.Holes(), d.Down())
	return b.String()
}

// fill makes files, each with its own name as its bytes, of which the even ones are sure.
func fill(t *testing.T, names ...string) *disk.Disk {
	t.Helper()
	d := disk.New(mostBytes)
	for i, name := range names {
		if err := d.Append(name, name); err != api.OK {
			t.Fatalf("Append(%q): %d", name, err)
		}
		if i%2 == 0 {
			d.Sync(name)
		}
	}
	return d
}

func mixed(t *testing.T) *disk.Disk {
	t.Helper()
	return fill(t, "log.10", "log.9", "log.x", "snap.3", "log.2", "lo.1", "logs.4", "log", "log.01", "log.100", "log.99999", "log.0", "a.7", "log.100000")
}

func checkAsked(t *testing.T, d *disk.Disk, word string) {
	t.Helper()
	before := told(d)
	all := wantAll(d, word)
	if got := All(d, word); !slices.Equal(got, all) {
		t.Errorf("All of %q: %v, not %v", word, got, all)
	}
	last := 0
	if len(all) > 0 {
		last = all[len(all)-1]
	}
	if got := Last(d, word); got != last {
		t.Errorf("Last of %q: %d, not %d", word, got, last)
	}
	if got, want := Size(d, word), wantSize(d, word); got != want {
		t.Errorf("Size of %q: %d, not %d", word, got, want)
	}
	if after := told(d); after != before {
		t.Errorf("asking for %q changed the disk: %s, not %s", word, after, before)
	}
}

// checkClear holds Clear against removing the same files by hand, on a disk made the same.
func checkClear(t *testing.T, made func() *disk.Disk, word string, below int) {
	t.Helper()
	d, by := made(), made()
	want := 0
	for _, n := range wantAll(by, word) {
		if n < below && by.Remove(word+"."+fmt.Sprint(n)) == api.OK {
			want++
		}
	}
	if got := Clear(d, word, below); got != want {
		t.Errorf("Clear of %q below %d: %d, not %d", word, below, got, want)
	}
	if got, want := told(d), told(by); got != want {
		t.Errorf("Clear of %q below %d left %s, not %s", word, below, got, want)
	}
}

func TestExampleOfTheDocument(t *testing.T) {
	if got := Name("log", 12); got != "log.12" {
		t.Errorf("Name: %q", got)
	}
	if n, ok := Number("log", "log.12"); n != 12 || !ok {
		t.Errorf("Number: %d %v", n, ok)
	}
}

func TestNamesOfAllNumbers(t *testing.T) {
	for n := 1; n <= lastNumber; n++ {
		name := Name("log", n)
		if name != fmt.Sprintf("log.%d", n) {
			t.Fatalf("Name of %d: %q", n, name)
		}
		if got, ok := Number("log", name); got != n || !ok {
			t.Fatalf("Number of %q: %d %v", name, got, ok)
		}
	}
}

func TestNamesAtTheEdges(t *testing.T) {
	for _, c := range []struct {
		word string
		n    int
		want string
	}{
		{"a", 1, "a.1"}, {"z", 1, "z.1"}, {"a", 99999, "a.99999"}, {"abcde", 1, "abcde.1"}, {"vwxyz", 99999, "vwxyz.99999"},
		{"log", 10, "log.10"}, {"log", 100, "log.100"}, {"log", 90909, "log.90909"},
		{"log", 0, ""}, {"log", -1, ""}, {"log", 100000, ""}, {"abcdef", 1, ""}, {"", 1, ""}, {"", 0, ""},
		{"log", 1<<32 + 1, ""}, {"log", math.MaxInt, ""}, {"log", math.MinInt, ""},
	} {
		if got := Name(c.word, c.n); got != c.want {
			t.Errorf("Name(%q, %d): %q, not %q", c.word, c.n, got, c.want)
		}
	}
}

func TestNamesOfWordsAndNumbers(t *testing.T) {
	for _, n := range farInts {
		for _, word := range slices.Concat(rightWords, wrongWords) {
			if got, want := Name(word, n), wantName(word, n); got != want {
				t.Errorf("Name(%q, %d): %q, not %q", word, n, got, want)
			}
		}
	}
	for _, word := range rightWords {
		if Name(word, 1) == "" {
			t.Errorf("Name(%q, 1): none", word)
		}
	}
	for _, word := range wrongWords {
		if got := Name(word, 1); got != "" {
			t.Errorf("Name(%q, 1): %q", word, got)
		}
	}
}

// A word is letters a to z alone: each byte is asked for at each of its places.
func TestEachByteOfAWord(t *testing.T) {
	for b := range 256 {
		for length := 1; length <= 5; length++ {
			for at := range length {
				bytes := []byte("abcde"[:length])
				bytes[at] = byte(b)
				word := string(bytes)
				right := 'a' <= b && b <= 'z'
				if got := Name(word, 7) == word+".7"; got != right {
					t.Errorf("Name(%q, 7): %v", word, got)
				}
				if _, got := Number(word, word+".7"); got != right {
					t.Errorf("Number(%q, %q): %v", word, word+".7", got)
				}
			}
		}
	}
}

func TestEachByteOfANumber(t *testing.T) {
	for b := range 256 {
		for length := 1; length <= 5; length++ {
			for at := range length {
				bytes := []byte("12345"[:length])
				bytes[at] = byte(b)
				name := "log." + string(bytes)
				want, right := wantNumber("log", name)
				if n, ok := Number("log", name); n != want || ok != right {
					t.Errorf("Number of %q: %d %v, not %d %v", name, n, ok, want, right)
				}
			}
		}
	}
}

// What is between the word and the number is a . and nothing else.
func TestEachByteBetween(t *testing.T) {
	for b := range 256 {
		name := "log" + string([]byte{byte(b)}) + "7"
		if n, ok := Number("log", name); ok != (b == '.') || ok && n != 7 {
			t.Errorf("Number of %q: %d %v", name, n, ok)
		}
	}
}

func TestNumbersOfRightNames(t *testing.T) {
	for _, word := range rightWords {
		for _, n := range []int{1, 2, 9, 10, 11, 99, 100, 101, 999, 1000, 9999, 10000, 12345, 99998, 99999} {
			name := fmt.Sprintf("%s.%d", word, n)
			if got, ok := Number(word, name); got != n || !ok {
				t.Errorf("Number(%q, %q): %d %v", word, name, got, ok)
			}
		}
	}
}

func TestNumbersOfWrongNames(t *testing.T) {
	for _, name := range wrongNames {
		for _, word := range slices.Concat(rightWords, wrongWords) {
			if n, ok := Number(word, name); n != 0 || ok {
				t.Errorf("Number(%q, %q): %d %v", word, name, n, ok)
			}
		}
	}
}

func TestNumbersOfAnotherWord(t *testing.T) {
	for _, word := range rightWords {
		for _, other := range rightWords {
			n, ok := Number(word, other+".12")
			if ok != (word == other) || ok && n != 12 || !ok && n != 0 {
				t.Errorf("Number(%q, %q): %d %v", word, other+".12", n, ok)
			}
		}
	}
	for _, name := range []string{"logs.1", "lo.1", "llog.1", "og.1", "logg.1", "snap.1", "a.1"} {
		if n, ok := Number("log", name); n != 0 || ok {
			t.Errorf("Number of %q: %d %v", name, n, ok)
		}
	}
}

// A wrong word has no names, not even one that begins with it.
func TestNumbersOfWrongWords(t *testing.T) {
	for _, word := range wrongWords {
		for _, name := range []string{word + ".1", word + "1", word, "." + word, "log.1", word + ".", word + ".12"} {
			if n, ok := Number(word, name); n != 0 || ok {
				t.Errorf("Number(%q, %q): %d %v", word, name, n, ok)
			}
		}
	}
}

// All short texts of the signs that names are made of, by the pattern.
func TestNumbersOfAllShortNames(t *testing.T) {
	var walk func(name string, left int)
	walk = func(name string, left int) {
		for _, word := range []string{"a", "ab", "b", ""} {
			want, right := wantNumber(word, name)
			if n, ok := Number(word, name); n != want || ok != right {
				t.Errorf("Number(%q, %q): %d %v, not %d %v", word, name, n, ok, want, right)
			}
		}
		if left == 0 {
			return
		}
		for _, sign := range []string{"a", "b", ".", "0", "1", "9", "-", "+"} {
			walk(name+sign, left-1)
		}
	}
	walk("", 5)
}

func TestFilesOfSeveralWords(t *testing.T) {
	d := mixed(t)
	if got := All(d, "log"); !slices.Equal(got, []int{2, 9, 10, 100, 99999}) {
		t.Errorf("All: %v", got)
	}
	if got := Last(d, "log"); got != 99999 {
		t.Errorf("Last: %d", got)
	}
	if got := Size(d, "log"); got != len("log.2log.9log.10log.100log.99999") {
		t.Errorf("Size: %d", got)
	}
	for _, c := range []struct {
		word       string
		last, size int
	}{{"snap", 3, 6}, {"lo", 1, 4}, {"logs", 4, 6}, {"a", 7, 3}, {"seg", 0, 0}, {"l", 0, 0}, {"", 0, 0}} {
		if last, size := Last(d, c.word), Size(d, c.word); last != c.last || size != c.size {
			t.Errorf("of %q: %d %d", c.word, last, size)
		}
	}
	for _, word := range slices.Concat(rightWords, wrongWords, []string{"lo", "logs"}) {
		checkAsked(t, d, word)
	}
}

// As texts log.10 stands ahead of log.2, and log.100 of log.9.
func TestNumbersRiseAsNumbers(t *testing.T) {
	d := fill(t, "log.9", "log.100", "log.11", "log.1", "log.2", "log.10000", "log.20", "log.99999", "log.3", "log.1000")
	if got := All(d, "log"); !slices.Equal(got, []int{1, 2, 3, 9, 11, 20, 100, 1000, 10000, 99999}) {
		t.Errorf("All: %v", got)
	}
	d = fill(t, "log.9", "log.10")
	if got := Last(d, "log"); got != 10 {
		t.Errorf("Last: %d", got)
	}
}

func TestSizeCountsWhatIsNotSure(t *testing.T) {
	d := disk.New(mostBytes)
	d.Append("log.1", "abc")
	if got := Size(d, "log"); got != 3 {
		t.Errorf("none of it is sure: %d", got)
	}
	d.Sync("log.1")
	d.Append("log.1", "de")
	d.Append("log.2", "f")
	d.Append("seg.1", "other")
	if got := Size(d, "log"); got != 6 {
		t.Errorf("some of it is sure: %d", got)
	}
	d.Crash(1)
	if got := Size(d, "log"); got != 4 {
		t.Errorf("behind a crash: %d", got)
	}
	if got := All(d, "log"); !slices.Equal(got, []int{1, 2}) {
		t.Errorf("a file of which nothing is left: %v", got)
	}
}

func TestFilesWithoutBytes(t *testing.T) {
	d := disk.New(0)
	for _, name := range []string{"log.2", "log.1", "seg.5"} {
		if err := d.Append(name, ""); err != api.OK {
			t.Fatalf("Append: %d", err)
		}
	}
	if !slices.Equal(All(d, "log"), []int{1, 2}) || Last(d, "log") != 2 || Size(d, "log") != 0 {
		t.Errorf("%v %d %d", All(d, "log"), Last(d, "log"), Size(d, "log"))
	}
	if got := Clear(d, "log", 3); got != 2 || !slices.Equal(d.Names(), []string{"seg.5"}) {
		t.Errorf("Clear: %d, left %v", got, d.Names())
	}
}

func TestSizeOfAFullDisk(t *testing.T) {
	d := disk.New(mostBytes)
	d.Append("log.1", strings.Repeat("x", mostBytes-1))
	d.Append("log.2", "\xff")
	if got := Size(d, "log"); got != mostBytes {
		t.Errorf("Size: %d", got)
	}
}

func TestAllIsTheCallersOwn(t *testing.T) {
	d := fill(t, "log.1", "log.2")
	all := All(d, "log")
	all[0], all[1] = 7, 8
	if got := All(d, "log"); !slices.Equal(got, []int{1, 2}) {
		t.Errorf("All behind a change of what it answered: %v", got)
	}
	Clear(d, "log", 3)
	if !slices.Equal(all, []int{7, 8}) {
		t.Errorf("what was answered has changed: %v", all)
	}
}

func TestClearOfSome(t *testing.T) {
	for _, c := range []struct {
		below, gone int
		left        []int
	}{
		{math.MinInt, 0, []int{2, 9, 10, 99999}}, {-1, 0, []int{2, 9, 10, 99999}}, {0, 0, []int{2, 9, 10, 99999}}, {1, 0, []int{2, 9, 10, 99999}},
		{2, 0, []int{2, 9, 10, 99999}}, {3, 1, []int{9, 10, 99999}}, {8, 1, []int{9, 10, 99999}}, {9, 1, []int{9, 10, 99999}},
		{10, 2, []int{10, 99999}}, {11, 3, []int{99999}}, {99998, 3, []int{99999}}, {99999, 3, []int{99999}},
		{100000, 4, nil}, {1 << 40, 4, nil}, {math.MaxInt, 4, nil},
	} {
		d := fill(t, "log.10", "log.9", "log.99999", "log.2", "seg.1", "logs.1", "lo.1", "log.x", "log.01")
		if got := Clear(d, "log", c.below); got != c.gone {
			t.Errorf("Clear below %d: %d, not %d", c.below, got, c.gone)
		}
		if got := All(d, "log"); !slices.Equal(got, c.left) {
			t.Errorf("Clear below %d left %v, not %v", c.below, got, c.left)
		}
		for _, other := range []string{"seg.1", "logs.1", "lo.1", "log.x", "log.01"} {
			if text, err := d.Read(other); text != other || err != api.OK {
				t.Errorf("Clear below %d: of %s there is %q, %d", c.below, other, text, err)
			}
		}
		if got := Clear(d, "log", c.below); got != 0 {
			t.Errorf("a second Clear below %d: %d", c.below, got)
		}
	}
}

func TestClearAtEveryWordAndNumber(t *testing.T) {
	made := func() *disk.Disk { return mixed(t) }
	for _, word := range slices.Concat(rightWords, wrongWords, []string{"lo", "logs"}) {
		for _, below := range farInts {
			checkClear(t, made, word, below)
		}
	}
}

func TestClearOfAWrongWord(t *testing.T) {
	for _, word := range wrongWords {
		d := mixed(t)
		before := told(d)
		d.Fuse(0)
		if got := Clear(d, word, math.MaxInt); got != 0 || d.Down() {
			t.Errorf("Clear of %q: %d, power gone %v", word, got, d.Down())
		}
		d.Fuse(-1)
		if got := told(d); got != before {
			t.Errorf("Clear of %q left %s", word, got)
		}
	}
}

// What others had appended, and isn't sure, goes in a crash as though the cleared files had never been.
func TestClearThenCrash(t *testing.T) {
	d := disk.New(mostBytes)
	d.Append("log.1", "abc")
	d.Append("seg.1", "defg")
	d.Append("log.2", "hi")
	if got := Clear(d, "log", 2); got != 1 || d.Waits() != 6 {
		t.Fatalf("Clear: %d, %d wait", got, d.Waits())
	}
	d.Crash(5)
	seg, _ := d.Read("seg.1")
	log, _ := d.Read("log.2")
	if seg != "defg" || log != "h" || !slices.Equal(d.Names(), []string{"log.2", "seg.1"}) {
		t.Errorf("left %v: %q, %q", d.Names(), seg, log)
	}
}

func TestEmptyDisk(t *testing.T) {
	for _, word := range slices.Concat(rightWords, wrongWords) {
		d := disk.New(100)
		checkAsked(t, d, word)
		if len(All(d, word)) != 0 || Last(d, word) != 0 || Size(d, word) != 0 || Clear(d, word, lastNumber+1) != 0 {
			t.Errorf("of %q there is something", word)
		}
	}
}

func TestSixteenFiles(t *testing.T) {
	for _, digits := range []int{1, 10000, 99984} {
		d := disk.New(mostBytes)
		var want []int
		for i := range mostFiles {
			if err := d.Append(fmt.Sprintf("abcde.%d", digits+i), "xy"); err != api.OK {
				t.Fatalf("Append: %d", err)
			}
			want = append(want, digits+i)
		}
		if !slices.Equal(All(d, "abcde"), want) || Last(d, "abcde") != digits+15 || Size(d, "abcde") != 32 || d.Holes() != 0 {
			t.Errorf("%v %d %d", All(d, "abcde"), Last(d, "abcde"), Size(d, "abcde"))
		}
		if got := Clear(d, "abcde", digits+15); got != 15 || d.Holes() != 15 || Last(d, "abcde") != digits+15 {
			t.Errorf("Clear of all but one: %d, %v", got, d.Names())
		}
		if got := Clear(d, "abcde", digits+16); got != 1 || len(d.Names()) != 0 || d.Used() != 0 {
			t.Errorf("Clear of the last one: %d, %v", got, d.Names())
		}
	}
}

func withoutPower(d *disk.Disk) *disk.Disk {
	d.Fuse(0)
	d.Remove("none")
	return d
}

func TestWithoutPower(t *testing.T) {
	d := withoutPower(mixed(t))
	if !d.Down() {
		t.Fatal("the power hasn't failed")
	}
	for _, word := range slices.Concat(rightWords, wrongWords) {
		checkAsked(t, d, word)
		before := told(d)
		for _, below := range farInts {
			if got := Clear(d, word, below); got != 0 || told(d) != before {
				t.Errorf("Clear of %q below %d: %d", word, below, got)
			}
		}
	}
	if !slices.Equal(All(d, "log"), []int{2, 9, 10, 100, 99999}) || Last(d, "log") != 99999 || Size(d, "log") != 32 {
		t.Error("what is asked isn't answered")
	}
	d.Crash(math.MaxInt)
	if got := Clear(d, "log", 11); got != 3 {
		t.Errorf("behind a crash: %d", got)
	}
}

// The lowest ones go first, so that what is left where the power fails is the end of them.
func TestPowerFailsInTheMidst(t *testing.T) {
	for _, below := range []int{0, 2, 3, 9, 10, 11, 101, lastNumber, lastNumber + 1, math.MaxInt} {
		for fuse := range 8 {
			d := mixed(t)
			all := wantAll(d, "log")
			asked, _ := slices.BinarySearch(all, below)
			gone := min(asked, fuse)
			d.Fuse(fuse)
			if got := Clear(d, "log", below); got != gone {
				t.Errorf("fuse %d, below %d: %d, not %d", fuse, below, got, gone)
			}
			if got := All(d, "log"); !slices.Equal(got, all[gone:]) {
				t.Errorf("fuse %d, below %d: %v is left", fuse, below, got)
			}
			if got := d.Down(); got != (asked > fuse) {
				t.Errorf("fuse %d, below %d: power gone %v", fuse, below, got)
			}
			if len(d.Names()) != 14-gone {
				t.Errorf("fuse %d, below %d: %v", fuse, below, d.Names())
			}
		}
	}
}

// One operation a file, and none for what is asked: the fuse comes out with the next one.
func TestOperationsOfEachCall(t *testing.T) {
	d := mixed(t)
	d.Fuse(3)
	All(d, "log")
	Last(d, "log")
	Size(d, "log")
	Name("log", 1)
	Number("log", "log.1")
	Clear(d, "log", 2)
	Clear(d, "seg", math.MaxInt)
	if got := Clear(d, "log", 11); got != 3 || d.Down() {
		t.Errorf("three files by three operations: %d, power gone %v", got, d.Down())
	}
	if err := d.Sync("log.100"); err != api.ErrDown {
		t.Errorf("the fourth operation: %d", err)
	}
}

func TestNilDisk(t *testing.T) {
	for _, word := range slices.Concat(rightWords, wrongWords) {
		if got := All(nil, word); len(got) != 0 {
			t.Errorf("All of nil: %v", got)
		}
		if last, size := Last(nil, word), Size(nil, word); last != 0 || size != 0 {
			t.Errorf("Last and Size of nil: %d %d", last, size)
		}
		for _, below := range farInts {
			if got := Clear(nil, word, below); got != 0 {
				t.Errorf("Clear of nil: %d", got)
			}
		}
	}
}

func TestZeroDisk(t *testing.T) {
	var d disk.Disk
	d.Append("log.4", "")
	checkAsked(t, &d, "log")
	if got := Clear(&d, "log", 5); got != 1 || len(d.Names()) != 0 {
		t.Errorf("Clear: %d, %v", got, d.Names())
	}
}

func TestLongRunsLikeTheModel(t *testing.T) {
	words := []string{"a", "ab", "log", "seg", "abcde"}
	pick := rand.New(rand.NewSource(8))
	for run := range 300 {
		d := disk.New(pick.Intn(400))
		for step := range 60 {
			word := words[pick.Intn(len(words))]
			n := pick.Intn(13)
			if pick.Intn(8) == 0 {
				n = pick.Intn(lastNumber + 2)
			}
			switch pick.Intn(6) {
			case 0:
				d.Crash(pick.Intn(40))
			case 1:
				d.Sync(wantName(word, n))
			case 2:
				before := wantAll(d, word)
				gone := Clear(d, word, n)
				asked, _ := slices.BinarySearch(before, n)
				if gone != asked || !slices.Equal(wantAll(d, word), before[gone:]) {
					t.Fatalf("run %d, step %d: Clear of %v below %d: %d", run, step, before, n, gone)
				}
			default:
				d.Append(word+"."+fmt.Sprint(n), strings.Repeat("x", pick.Intn(12)))
			}
			checkAsked(t, d, word)
		}
	}
}

func TestNoCallPanics(t *testing.T) {
	texts := slices.Concat(rightWords, wrongWords, wrongNames)
	disks := []*disk.Disk{nil, {}, disk.New(0), disk.New(-1), mixed(t), withoutPower(mixed(t))}
	for _, s := range texts {
		for _, n := range farInts {
			Name(s, n)
		}
		for _, name := range texts {
			Number(s, name)
		}
		for _, d := range disks {
			All(d, s)
			Last(d, s)
			Size(d, s)
			for _, n := range farInts {
				Clear(d, s, n)
			}
		}
	}
}
