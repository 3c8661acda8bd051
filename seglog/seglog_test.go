package seglog

import (
	"encoding/binary"
	"fmt"
	"hash/crc32"
	"math"
	"math/rand"
	"regexp"
	"slices"
	"sort"
	"strconv"
	"strings"
	"testing"

	"concierge/api"
	"concierge/disk"
)

// The limits as the document writes them out, so that the tests do not lean on the program's own.
const (
	lastNumber  = 99999
	mostContent = 2000
	mostFiles   = 16
	mostBytes   = 60000
	greatest    = 1 << 30
)

var farInts = []int{
	math.MinInt, math.MinInt + 1, -1 << 32, -greatest, -2001, -2, -1, 0, 1, 2, 3, 10, 2000, 2001, 2010, mostBytes, mostBytes + 1, lastNumber - 1, lastNumber, lastNumber + 1,
	greatest - 1, greatest, greatest + 1, 1<<32 + 1, 1 << 40, math.MaxInt - 2010, math.MaxInt - 1, math.MaxInt,
}

// segmentName is the document's name of a segment, apart from how the program reads it.
var segmentName = regexp.MustCompile(`\Alog\.([1-9][0-9]{0,4})\z`)

// op is an operation of a disk.
type op struct {
	kind, name, s string
	n             int
}

func (o op) do(d *disk.Disk) api.Errno {
	switch o.kind {
	case "append":
		return d.Append(o.name, o.s)
	case "sync":
		return d.Sync(o.name)
	case "cut":
		return d.Cut(o.name, o.n)
	}
	panic(o.kind)
}

// play does operations, up to the first one that is refused.
func play(d *disk.Disk, ops []op) api.Errno {
	for _, o := range ops {
		if fault := o.do(d); fault != api.OK {
			return fault
		}
	}
	return api.OK
}

func wantSum(s string) string {
	return string(binary.BigEndian.AppendUint32(nil, crc32.ChecksumIEEE([]byte(s))))
}

// wantHead is a head with the right sum, also of a number that may not be.
func wantHead(count int) string {
	told := string(binary.BigEndian.AppendUint16(nil, uint16(count)))
	return told + wantSum(told)
}

func wantFrame(content string) string {
	return wantHead(len(content)) + content + wantSum(content)
}

func wantFrames(contents ...string) string {
	var all strings.Builder
	for _, content := range contents {
		all.WriteString(wantFrame(content))
	}
	return all.String()
}

func wantSplit(s string) ([]string, int, api.Errno) {
	var contents []string
	behind := 0
	for rest := s; rest != ""; rest = s[behind:] {
		if len(rest) < 6 {
			return contents, behind, api.ErrForm
		}
		if wantSum(rest[:2]) != rest[2:6] {
			return contents, behind, api.ErrSum
		}
		count := int(rest[0])*256 + int(rest[1])
		if count > mostContent {
			return contents, behind, api.ErrLong
		}
		if len(rest) < count+10 {
			return contents, behind, api.ErrForm
		}
		if wantSum(rest[6:6+count]) != rest[6+count:10+count] {
			return contents, behind, api.ErrSum
		}
		contents = append(contents, rest[6:6+count])
		behind += count + 10
	}
	return contents, behind, api.OK
}

func segment(n int) string {
	return fmt.Sprintf("log.%d", n)
}

// wantNumbers are those of the log from first on, by the disk's names.
func wantNumbers(d *disk.Disk, first int) []int {
	var numbers []int
	for _, name := range d.Names() {
		if parts := segmentName.FindStringSubmatch(name); parts != nil {
			if n, _ := strconv.Atoi(parts[1]); n >= first {
				numbers = append(numbers, n)
			}
		}
	}
	sort.Ints(numbers)
	return numbers
}

func wantLast(d *disk.Disk, first int) int {
	last := first
	for _, n := range wantNumbers(d, first) {
		last = n
	}
	return last
}

func wantBytes(d *disk.Disk, first int) int {
	size := 0
	for _, n := range wantNumbers(d, first) {
		text, _ := d.Read(segment(n))
		size += len(text)
	}
	return size
}

func isThere(d *disk.Disk, name string) bool {
	return slices.Contains(d.Names(), name)
}

func broughtNumber(n int) int {
	switch {
	case n < 0:
		return 0
	case n > greatest:
		return greatest
	}
	return n
}

// wantOpen asks one thing behind the other, in the order of the document: the records, the operations, and the fault ahead of these.
func wantOpen(d *disk.Disk, first int) ([]string, []op, api.Errno) {
	if d == nil || first <= 0 || first > lastNumber {
		return nil, nil, api.ErrArg
	}
	numbers := wantNumbers(d, first)
	if len(numbers) > 0 && (numbers[0] != first || numbers[len(numbers)-1] != first+len(numbers)-1) {
		return nil, nil, api.ErrNone
	}
	var records []string
	var ops []op
	for _, n := range numbers {
		text, _ := d.Read(segment(n))
		contents, size, fault := wantSplit(text)
		if fault == api.ErrForm && n == first+len(numbers)-1 {
			ops = append(ops, op{kind: "cut", name: segment(n), n: size})
		} else if fault != api.OK {
			return nil, nil, fault
		}
		records = append(records, contents...)
	}
	return records, ops, api.OK
}

// wantAppend answers the operations, or the fault that is ahead of them.
func wantAppend(d *disk.Disk, first, limit int, s string, rest int) ([]op, api.Errno) {
	if len(s) > mostContent {
		return nil, api.ErrLong
	}
	var ops []op
	to := wantLast(d, first)
	text, _ := d.Read(segment(to))
	if text != "" && len(text)+len(s)+10 > broughtNumber(limit) {
		ops = append(ops, op{kind: "sync", name: segment(to)})
		to++
	}
	if to == lastNumber+1 {
		return nil, api.ErrOver
	}
	if !isThere(d, segment(to)) && len(d.Names()) > mostFiles-3 {
		return nil, api.ErrFull
	}
	if len(s)+10+broughtNumber(rest) > d.Free() {
		return nil, api.ErrFull
	}
	return append(ops, op{kind: "append", name: segment(to), s: wantFrame(s)}), api.OK
}

func wantSync(d *disk.Disk, first int) []op {
	last := segment(wantLast(d, first))
	if !isThere(d, last) {
		return nil
	}
	return []op{{kind: "sync", name: last}}
}

// told is all that a disk has, so that what is to stay may be held against what was.
func told(d *disk.Disk) string {
	var b strings.Builder
	for _, name := range d.Names() {
		text, err := d.Read(name)
		fmt.Fprintf(&b, "%s=%x/%d/%d ", name, text, d.Sure(name), err)
	}
	fmt.Fprint(&b, d.Used(), d.Waits(), d.Free(), d.Holes(), d.Down())
	return b.String()
}

// left lets the fuse of a disk burn down: how many operations more were done.
func left(d *disk.Disk) int {
	for n := range 50 {
		if d.Remove("nothing") == api.ErrDown {
			return n
		}
	}
	return -1
}

// short cuts a text that is told in a fault's line.
func short(s string) string {
	return s[:min(len(s), 400)]
}

func checkErr(t *testing.T, what string, got, want api.Errno) {
	t.Helper()
	if got != want {
		t.Errorf("%s: %d, not %d", what, got, want)
	}
}

func checkLog(t *testing.T, what string, l *Log, first, last, bytes int) {
	t.Helper()
	if l.First() != first || l.Last() != last || l.Bytes() != bytes {
		t.Errorf("%s: from %d up to %d with %d bytes, not from %d up to %d with %d", what, l.First(), l.Last(), l.Bytes(), first, last, bytes)
	}
}

func checkSame(t *testing.T, what string, d, twin *disk.Disk) {
	t.Helper()
	if got, want := told(d), told(twin); got != want {
		t.Errorf("%s: the disk is\n%s, not\n%s", what, short(got), short(want))
	}
}

// checkOpen opens a log that is right, and answers it.
func checkOpen(t *testing.T, what string, d *disk.Disk, first, limit int, records ...string) *Log {
	t.Helper()
	l, got, fault := Open(d, first, limit)
	if fault != api.OK || l == nil || !slices.Equal(got, records) {
		t.Fatalf("%s: Open from %d on with %d: %d, %d records %s, not %d %s", what, first, limit, fault, len(got), short(fmt.Sprintf("%q", got)), len(records), short(fmt.Sprintf("%q", records)))
	}
	return l
}

// checkRefused opens what isn't right, which is left as it is.
func checkRefused(t *testing.T, what string, d *disk.Disk, first int, want api.Errno) {
	t.Helper()
	before := told(d)
	for _, limit := range []int{-1, 0, 30, mostBytes, math.MaxInt} {
		l, records, fault := Open(d, first, limit)
		if l != nil || len(records) != 0 || fault != want {
			t.Errorf("%s: Open from %d on with %d: %v, %q, %d, not %d", what, first, limit, l != nil, records, fault, want)
		}
	}
	if got := told(d); got != before {
		t.Errorf("%s: a refused Open left\n%s, not\n%s", what, short(got), short(before))
	}
}

func checkFiles(t *testing.T, what string, d *disk.Disk, files map[string]string) {
	t.Helper()
	if len(d.Names()) != len(files) {
		t.Errorf("%s: there are %v, not %d files", what, d.Names(), len(files))
	}
	for name, want := range files {
		if got, err := d.Read(name); err != api.OK || got != want {
			t.Errorf("%s: %s has %d bytes %x, %d, not %d bytes %x", what, name, len(got), short(got), err, len(want), short(want))
		}
	}
}

func mustDo(t *testing.T, what string, err api.Errno) {
	t.Helper()
	if err != api.OK {
		t.Fatalf("%s: %d", what, err)
	}
}

// fill makes a disk with files of which all is sure.
func fill(t *testing.T, files map[string]string) *disk.Disk {
	t.Helper()
	d := disk.New(mostBytes)
	for name, s := range files {
		mustDo(t, name, d.Append(name, s))
		mustDo(t, name, d.Sync(name))
	}
	return d
}

// others makes so many files that are no segments.
func others(t *testing.T, d *disk.Disk, count int) {
	t.Helper()
	for i := range count {
		mustDo(t, "another file", d.Append(fmt.Sprintf("x%d", i), ""))
	}
}

func appendAll(t *testing.T, l *Log, records ...string) {
	t.Helper()
	for i, s := range records {
		if err := l.Append(s, 0); err != api.OK {
			t.Fatalf("Append of record %d, of %d bytes: %d", i, len(s), err)
		}
	}
}

func xs(n int) string {
	return strings.Repeat("x", n)
}

func TestExampleOfTheDocument(t *testing.T) {
	d := disk.New(mostBytes)
	l := checkOpen(t, "an empty disk", d, 1, 100)
	checkErr(t, "Append", l.Append("x", 0), api.OK)
	checkFiles(t, "behind x", d, map[string]string{"log.1": "\x00\x01\x36\xde\x22\x69" + "x" + "\x8c\xdc\x16\x83"})
}

func TestOpenOfAnEmptyDisk(t *testing.T) {
	for _, first := range []int{1, 2, 9, 10, 99, 12345, 99998, 99999} {
		d := disk.New(mostBytes)
		d.Fuse(0)
		l := checkOpen(t, "empty", d, first, 100)
		checkLog(t, "empty", l, first, first, 0)
		checkErr(t, "Sync of a log without segments", l.Sync(), api.OK)
		if len(d.Names()) != 0 || d.Down() {
			t.Errorf("from %d on: there are %v, and the power is off: %v", first, d.Names(), d.Down())
		}
	}
}

func TestSegmentsByteForByte(t *testing.T) {
	const abc = "\x00\x03\xd8\xd0\x43\x45" + "abc" + "\x35\x24\x41\xc2"
	const none = "\x00\x00\x41\xd9\x12\xff" + "" + "\x00\x00\x00\x00"
	const zero = "\x00\x01\x36\xde\x22\x69" + "\x00" + "\xd2\x02\xef\x8d"
	const euro = "\x00\x05\x31\xb3\xe6\x70" + "\u00e9\u20ac" + "\x24\x47\x22\x5d"
	d := disk.New(mostBytes)
	l := checkOpen(t, "empty", d, 9, 36)
	steps := []struct {
		s     string
		files map[string]string
	}{
		{"abc", map[string]string{"log.9": abc}},
		{"", map[string]string{"log.9": abc + none}},
		{"abc", map[string]string{"log.9": abc + none + abc}},
		{"\x00", map[string]string{"log.9": abc + none + abc, "log.10": zero}},
		{"\u00e9\u20ac", map[string]string{"log.9": abc + none + abc, "log.10": zero + euro}},
		{"", map[string]string{"log.9": abc + none + abc, "log.10": zero + euro + none}},
		{"", map[string]string{"log.9": abc + none + abc, "log.10": zero + euro + none, "log.11": none}},
	}
	for i, step := range steps {
		what := fmt.Sprintf("step %d", i)
		checkErr(t, what, l.Append(step.s, 0), api.OK)
		checkFiles(t, what, d, step.files)
		checkErr(t, what, l.Sync(), api.OK)
		checkFiles(t, what+", synced", d, step.files)
		if d.Waits() != 0 {
			t.Errorf("%s: behind Sync %d bytes aren't sure", what, d.Waits())
		}
	}
	checkOpen(t, "again", d, 9, 36, "abc", "", "abc", "\x00", "\u00e9\u20ac", "", "")
}

// Where the log goes on to the next segment: how many bytes each one has.
func TestWhereTheNextSegmentBegins(t *testing.T) {
	for _, c := range []struct {
		limit   int
		records []int
		sizes   []int
	}{
		{30, []int{5, 5, 5, 1}, []int{30, 26}},
		{29, []int{5, 5, 5}, []int{15, 15, 15}},
		{30, []int{5, 5}, []int{30}},
		{31, []int{5, 5, 0}, []int{30, 10}},
		{40, []int{5, 5, 0}, []int{40}},
		{39, []int{5, 5, 0}, []int{30, 10}},
		{20, []int{0, 0, 0, 0, 0}, []int{20, 20, 10}},
		{19, []int{0, 0, 0}, []int{10, 10, 10}},
		{0, []int{0, 0, 7, 0}, []int{10, 10, 17, 10}},
		{1, []int{0, 0, 7, 0}, []int{10, 10, 17, 10}},
		{-1, []int{0, 0, 7, 0}, []int{10, 10, 17, 10}},
		{math.MinInt, []int{0, 0, 7, 0}, []int{10, 10, 17, 10}},
		{10, []int{2000, 0, 0, 2000}, []int{2010, 10, 10, 2010}},
		{2010, []int{2000, 0, 1999, 1, 1990}, []int{2010, 10, 2009, 11, 2000}},
		{2010, []int{1990, 0, 0}, []int{2010, 10}},
		{2010, []int{0, 1990}, []int{2010}},
		{2010, []int{0, 1991}, []int{10, 2001}},
		{mostBytes, []int{2000, 2000, 0, 2000, 1}, []int{6051}},
		{greatest, []int{2000, 2000, 0, 2000, 1}, []int{6051}},
		{greatest + 1, []int{2000, 2000, 0, 2000, 1}, []int{6051}},
		{1 << 32, []int{2000, 2000, 0, 2000, 1}, []int{6051}},
		{math.MaxInt, []int{2000, 2000, 0, 2000, 1}, []int{6051}},
		{math.MaxInt - 2009, []int{2000, 2000, 0, 2000, 1}, []int{6051}},
	} {
		what := fmt.Sprintf("limit %d, records %v", c.limit, c.records)
		d := disk.New(mostBytes)
		l := checkOpen(t, what, d, 7, c.limit)
		var records []string
		for _, n := range c.records {
			records = append(records, xs(n))
		}
		appendAll(t, l, records...)
		var sizes []int
		bytes := 0
		for i := range c.sizes {
			text, _ := d.Read(segment(7 + i))
			sizes = append(sizes, len(text))
			bytes += len(text)
		}
		if !slices.Equal(sizes, c.sizes) || len(d.Names()) != len(c.sizes) {
			t.Errorf("%s: %v with %v bytes, not %v", what, d.Names(), sizes, c.sizes)
		}
		checkLog(t, what, l, 7, 6+len(c.sizes), bytes)
		checkOpen(t, what, d, 7, c.limit, records...)
	}
}

// Of each length: just as many bytes as the limit, and one more.
func TestJustTheLimitAndOneMore(t *testing.T) {
	for _, ahead := range []int{0, 1, 5, 245, 1000, 1999, 2000} {
		for _, n := range []int{0, 1, 2, 100, 246, 255, 256, 1999, 2000} {
			limit := ahead + 10 + n + 10
			for less := range 3 {
				d := disk.New(mostBytes)
				l := checkOpen(t, "empty", d, 1, limit-less)
				appendAll(t, l, xs(ahead), xs(n))
				want := 1
				if less > 0 {
					want = 2
				}
				checkLog(t, fmt.Sprintf("%d and %d bytes, limit %d", ahead, n, limit-less), l, 1, want, limit)
			}
		}
	}
}

func TestNumbersBehindEachCall(t *testing.T) {
	d := disk.New(mostBytes)
	l := checkOpen(t, "empty", d, 5, 30)
	checkLog(t, "new", l, 5, 5, 0)
	for _, c := range []struct{ n, last, bytes, sure int }{
		{5, 5, 15, 0}, {5, 5, 30, 0}, {5, 6, 45, 30}, {1, 6, 56, 30}, {0, 7, 66, 56}, {2000, 8, 2076, 66}, {0, 9, 2086, 2076},
	} {
		what := fmt.Sprintf("behind %d bytes", c.bytes)
		checkErr(t, what, l.Append(xs(c.n), 0), api.OK)
		checkLog(t, what, l, 5, c.last, c.bytes)
		if got := d.Used() - d.Waits(); got != c.sure {
			t.Errorf("%s: %d are sure, not %d", what, got, c.sure)
		}
		checkErr(t, "too long", l.Append(xs(2001), 0), api.ErrLong)
		checkLog(t, what+", and a refused one", l, 5, c.last, c.bytes)
	}
	checkErr(t, "Sync", l.Sync(), api.OK)
	checkLog(t, "synced", l, 5, 9, 2086)
	if d.Waits() != 0 {
		t.Errorf("behind Sync %d bytes aren't sure", d.Waits())
	}
}

func TestOpenedAgain(t *testing.T) {
	d := disk.New(mostBytes)
	l := checkOpen(t, "empty", d, 98, 26)
	records := []string{"abc", "def", "", "0123456789012345678901", "", "\xff\x00", xs(2000), "z"}
	appendAll(t, l, records...)
	mustDo(t, "Sync", l.Sync())
	before := told(d)
	d.Fuse(0)
	for _, limit := range farInts {
		m := checkOpen(t, "again", d, 98, limit, records...)
		checkLog(t, "again", m, 98, l.Last(), l.Bytes())
	}
	for i, from := range []struct{ first, records, bytes int }{
		{98, 0, 2111}, {99, 2, 2085}, {100, 3, 2075}, {101, 4, 2043}, {102, 6, 2021}, {103, 7, 11},
	} {
		m := checkOpen(t, fmt.Sprint("later ", i), d, from.first, 26, records[from.records:]...)
		checkLog(t, fmt.Sprint("later ", i), m, from.first, 103, from.bytes)
	}
	// Behind all of them there is nothing yet: the next one is the first.
	m := checkOpen(t, "behind all", d, 104, 26)
	checkLog(t, "behind all", m, 104, 104, 0)
	if told(d) != before {
		t.Errorf("Open did something: %s, not %s", short(told(d)), short(before))
	}
	d.Fuse(-1)
	appendAll(t, m, "behind")
	checkOpen(t, "all", d, 98, 26, append(slices.Clone(records), "behind")...)
}

func TestRecordsOfAnyKind(t *testing.T) {
	var records []string
	for b := range 256 {
		records = append(records, string([]byte{byte(b)}))
	}
	records = append(records, wantFrame("abc"), wantFrame(""), "log.1", "cg1", "\u00e9\u20ac", "\xed\xa0\x80", xs(255), xs(256), xs(257), xs(1999), xs(2000), "")
	for _, limit := range []int{500, 1000, 3000, mostBytes} {
		d := disk.New(mostBytes)
		l := checkOpen(t, "empty", d, 1, limit)
		appendAll(t, l, records...)
		checkOpen(t, "not sure", d, 1, limit, records...)
		mustDo(t, "Sync", l.Sync())
		d.Crash(0)
		checkOpen(t, "sure", d, 1, limit, records...)
	}
}

func TestFirstAtTheEdges(t *testing.T) {
	for _, first := range append([]int{-99999, -10, 0, 100000, 100001, 999999, 1<<32 + 1}, farInts...) {
		d := disk.New(mostBytes)
		if 1 <= first && first <= lastNumber {
			l := checkOpen(t, "empty", d, first, 100)
			appendAll(t, l, "a")
			checkFiles(t, "behind a", d, map[string]string{segment(first): wantFrame("a")})
			checkLog(t, "behind a", l, first, first, 11)
			continue
		}
		checkRefused(t, "empty", d, first, api.ErrArg)
		checkRefused(t, "with a segment", fill(t, map[string]string{"log.1": wantFrame("a")}), first, api.ErrArg)
		checkRefused(t, "with the last segment", fill(t, map[string]string{"log.99999": wantFrame("a")}), first, api.ErrArg)
	}
}

func TestNoDisk(t *testing.T) {
	for _, first := range farInts {
		for _, limit := range farInts {
			if l, records, fault := Open(nil, first, limit); l != nil || len(records) != 0 || fault != api.ErrArg {
				t.Errorf("Open of no disk from %d on with %d: %v, %q, %d", first, limit, l, records, fault)
			}
		}
	}
}

func TestNilLog(t *testing.T) {
	for _, l := range []*Log{nil, {}} {
		for _, s := range []string{"", "a", xs(2000), xs(2001)} {
			for _, rest := range farInts {
				checkErr(t, "Append to no log", l.Append(s, rest), api.ErrArg)
			}
		}
		checkErr(t, "Sync of no log", l.Sync(), api.ErrArg)
		checkLog(t, "no log", l, 0, 0, 0)
	}
}

func TestRecordsAtTheEdges(t *testing.T) {
	for _, limit := range []int{0, 100, 2010, mostBytes} {
		d := disk.New(mostBytes)
		l := checkOpen(t, "empty", d, 1, limit)
		before := told(d)
		for _, n := range []int{2001, 2002, 2010, 4096, 65536, 65536 + 3, 1 << 20} {
			for _, rest := range farInts {
				checkErr(t, "too long", l.Append(xs(n), rest), api.ErrLong)
			}
			if told(d) != before {
				t.Fatalf("a refused Append of %d bytes left %s", n, short(told(d)))
			}
		}
		// It is bytes that are counted, not signs.
		checkErr(t, "667 signs of 3 bytes", l.Append(strings.Repeat("\u20ac", 667), 0), api.ErrLong)
		records := []string{"", xs(2000), strings.Repeat("\u20ac", 666), xs(1999), ""}
		appendAll(t, l, records...)
		checkOpen(t, "again", d, 1, limit, records...)
		if l.Bytes() != 10+2010+2008+2009+10 {
			t.Errorf("limit %d: there are %d bytes", limit, l.Bytes())
		}
	}
}

// A segment that has nothing yet takes what is longer than the limit.
func TestASegmentThatHasNothingYet(t *testing.T) {
	for _, n := range []int{0, 1, 2000} {
		for _, limit := range []int{-1, 0, 1, 9, 10, 11, 2009, 2010} {
			d := disk.New(mostBytes)
			l := checkOpen(t, "no file", d, 4, limit)
			appendAll(t, l, xs(n))
			checkFiles(t, "no file", d, map[string]string{"log.4": wantFrame(xs(n))})

			d = fill(t, map[string]string{"log.4": ""})
			l = checkOpen(t, "an empty file", d, 4, limit)
			checkLog(t, "an empty file", l, 4, 4, 0)
			appendAll(t, l, xs(n))
			checkFiles(t, "an empty file", d, map[string]string{"log.4": wantFrame(xs(n))})

			d = fill(t, map[string]string{"log.4": wantFrame("a"), "log.5": ""})
			l = checkOpen(t, "an empty file behind another one", d, 4, limit, "a")
			checkLog(t, "an empty file behind another one", l, 4, 5, 11)
			appendAll(t, l, xs(n))
			checkFiles(t, "an empty file behind another one", d, map[string]string{"log.4": wantFrame("a"), "log.5": wantFrame(xs(n))})
		}
	}
}

func TestEmptySegments(t *testing.T) {
	a := wantFrame("a")
	d := fill(t, map[string]string{"log.1": "", "log.2": a, "log.3": "", "log.4": "", "log.5": a + a, "log.6": ""})
	d.Fuse(0)
	l := checkOpen(t, "empty ones between", d, 1, 100, "a", "a", "a")
	checkLog(t, "empty ones between", l, 1, 6, 33)
	if d.Down() {
		t.Error("an empty last segment was cut")
	}
}

func TestTheLastNumber(t *testing.T) {
	d := disk.New(mostBytes)
	l := checkOpen(t, "empty", d, lastNumber-1, 22)
	appendAll(t, l, "a", "b", "c")
	checkLog(t, "up to 99999", l, 99998, 99999, 33)
	checkErr(t, "just as many as the limit", l.Append("d", 0), api.OK)
	before := told(d)
	for _, s := range []string{"", "e", xs(2000)} {
		for _, rest := range farInts {
			checkErr(t, "99999 is full", l.Append(s, rest), api.ErrOver)
		}
	}
	if told(d) != before {
		t.Errorf("a refused Append left %s, not %s", told(d), before)
	}
	checkErr(t, "Sync", l.Sync(), api.OK)
	checkErr(t, "99999 is full, and sure", l.Append("", 0), api.ErrOver)
	checkFiles(t, "99999 is full", d, map[string]string{"log.99998": wantFrames("a", "b"), "log.99999": wantFrames("c", "d")})
	m := checkOpen(t, "with a greater limit", d, 99999, 33, "c", "d")
	checkErr(t, "with a greater limit", m.Append("e", 0), api.OK)
	checkErr(t, "with a greater limit, full", m.Append("f", 0), api.ErrOver)
}

// A segment that isn't there yet needs three files that may still be made.
func TestFilesThatAreLeft(t *testing.T) {
	for more := range mostFiles + 1 {
		d := disk.New(mostBytes)
		others(t, d, more)
		l := checkOpen(t, "no segment", d, 1, 100)
		want := api.OK
		if mostFiles-more < 3 {
			want = api.ErrFull
		}
		checkErr(t, fmt.Sprintf("the first segment, with %d files left", mostFiles-more), l.Append("a", 0), want)
		if there := isThere(d, "log.1"); there != (want == api.OK) {
			t.Errorf("with %d files left: the segment is there: %v", mostFiles-more, there)
		}
	}
	for more := range mostFiles {
		d := disk.New(mostBytes)
		mustDo(t, "a segment", d.Append("log.1", wantFrame("a")))
		others(t, d, more)
		what := fmt.Sprintf("with %d files left", mostFiles-1-more)
		l := checkOpen(t, what, d, 1, 22, "a")
		checkErr(t, "the segment that is there, "+what, l.Append("b", 0), api.OK)
		before := told(d)
		want := api.OK
		if mostFiles-1-more < 3 {
			want = api.ErrFull
		}
		checkErr(t, "the next segment, "+what, l.Append("c", 0), want)
		if want == api.ErrFull && told(d) != before {
			t.Errorf("%s: a refused Append left %s, not %s", what, told(d), before)
		}
		// A segment that is there and has nothing needs no file either.
		mustDo(t, "Cut", d.Cut("log.1", 0))
		if want == api.ErrFull {
			checkErr(t, "the empty segment, "+what, l.Append("d", 0), api.OK)
		}
	}
}

func TestTwoAndThreeFilesLeft(t *testing.T) {
	d := disk.New(mostBytes)
	others(t, d, 13)
	l := checkOpen(t, "three", d, 1, 0)
	checkErr(t, "three files left, no segment", l.Append("a", 0), api.OK)
	checkErr(t, "two files left, the segment is full", l.Append("b", 0), api.ErrFull)
	checkErr(t, "Remove", d.Remove("x0"), api.OK)
	checkErr(t, "three files left, the segment is full", l.Append("b", 0), api.OK)
	checkErr(t, "two files left again", l.Append("c", 0), api.ErrFull)
	m := checkOpen(t, "two", d, 1, 22, "a", "b")
	checkErr(t, "two files left, the segment is there", m.Append("c", 0), api.OK)
	checkErr(t, "two files left, the segment is there, and full", m.Append("c", 0), api.ErrFull)
	checkFiles(t, "at the end", d, map[string]string{
		"log.1": wantFrame("a"), "log.2": wantFrames("b", "c"), "x1": "", "x2": "", "x3": "", "x4": "", "x5": "", "x6": "", "x7": "", "x8": "", "x9": "", "x10": "", "x11": "", "x12": "",
	})
}

func TestRest(t *testing.T) {
	for _, room := range []int{0, 9, 10, 11, 100, 2010, 5000, mostBytes} {
		for _, n := range []int{0, 1, 90, 91, 2000} {
			rests := append([]int{room - n - 12, room - n - 11, room - n - 10, room - n - 9, room - n - 8, room, room + 1}, farInts...)
			for _, rest := range rests {
				d := disk.New(room)
				l := checkOpen(t, "empty", d, 1, 100)
				want := api.OK
				if n+10+broughtNumber(rest) > room {
					want = api.ErrFull
				}
				checkErr(t, fmt.Sprintf("room for %d, %d bytes and the rest %d", room, n, rest), l.Append(xs(n), rest), want)
				if isThere(d, "log.1") != (want == api.OK) {
					t.Errorf("room for %d, %d bytes and the rest %d: there are %v", room, n, rest, d.Names())
				}
			}
		}
	}
}

func TestRestLiterally(t *testing.T) {
	d := disk.New(5000)
	l := checkOpen(t, "empty", d, 1, 30)
	for _, c := range []struct {
		rest int
		want api.Errno
	}{
		{4990, api.ErrFull}, {greatest, api.ErrFull}, {greatest + 1, api.ErrFull}, {math.MaxInt, api.ErrFull}, {4989, api.OK}, // 11 of 5000
		{4979, api.ErrFull}, {4978, api.OK}, // 22 of 5000
		{4968, api.ErrFull}, {4967, api.OK}, // 33, in the next segment
		{-1, api.OK}, {math.MinInt, api.OK}, {0, api.OK}, // 66
	} {
		checkErr(t, fmt.Sprintf("with %d bytes, the rest %d", d.Used(), c.rest), l.Append("x", c.rest), c.want)
	}
	checkLog(t, "at the end", l, 1, 3, 66)
	// What is free counts what all files have, and no room that was taken away.
	mustDo(t, "another file", d.Append("a", xs(4900)))
	checkErr(t, "34 bytes free, and 24 wanted behind it", l.Append("x", 24), api.ErrFull)
	checkErr(t, "34 bytes free, and 23 wanted behind it", l.Append("x", 23), api.OK)
	d.Room(100)
	checkErr(t, "none free", l.Append("", -5), api.ErrFull)
	d.Room(4977 + 10)
	checkErr(t, "ten free", l.Append("", -5), api.OK)
}

// The last segment may have a rest, of each length.
func TestRestOfTheLastSegment(t *testing.T) {
	whole := []string{"abc", "", xs(300)}
	torn := wantFrame("0123456789")
	for n := range len(torn) {
		for ahead := range len(whole) + 1 {
			text := wantFrames(whole[:ahead]...)
			d := fill(t, map[string]string{"log.2": wantFrame("first"), "log.3": text + torn[:n]})
			l := checkOpen(t, fmt.Sprintf("%d whole and %d bytes", ahead, n), d, 2, 1000, append([]string{"first"}, whole[:ahead]...)...)
			checkFiles(t, fmt.Sprintf("%d whole and %d bytes", ahead, n), d, map[string]string{"log.2": wantFrame("first"), "log.3": text})
			checkLog(t, "cut", l, 2, 3, 15+len(text))
			appendAll(t, l, "more")
			checkOpen(t, "more", d, 2, 1000, append(append([]string{"first"}, whole[:ahead]...), "more")...)
		}
	}
}

// A Cut makes what stays sure, also what wasn't.
func TestRestThatIsNotSure(t *testing.T) {
	d := disk.New(mostBytes)
	mustDo(t, "Append", d.Append("log.1", wantFrame("a")+"\x00\x01\x36"))
	checkOpen(t, "a rest", d, 1, 100, "a")
	if d.Sure("log.1") != 11 || d.Waits() != 0 {
		t.Errorf("behind the Cut %d bytes are sure, and %d wait", d.Sure("log.1"), d.Waits())
	}
	mustDo(t, "Append", d.Append("log.1", wantFrame("b")))
	checkOpen(t, "no rest", d, 1, 100, "a", "b")
	if d.Sure("log.1") != 11 || d.Waits() != 11 {
		t.Errorf("without a rest %d bytes are sure, and %d wait", d.Sure("log.1"), d.Waits())
	}
}

func TestNumbersThatAreNotInARow(t *testing.T) {
	a := wantFrame("a")
	for _, c := range []struct {
		numbers []int
		first   int
		want    api.Errno
	}{
		{[]int{1}, 1, api.OK}, {[]int{2}, 1, api.ErrNone}, {[]int{1, 3}, 1, api.ErrNone}, {[]int{1, 3}, 2, api.ErrNone}, {[]int{1, 3}, 3, api.OK}, {[]int{1, 3}, 4, api.OK},
		{[]int{9, 10, 11}, 9, api.OK}, {[]int{9, 10, 11}, 8, api.ErrNone}, {[]int{9, 10, 11}, 10, api.OK}, {[]int{9, 10, 11}, 1, api.ErrNone}, {[]int{9, 11}, 9, api.ErrNone}, {[]int{10, 11, 13}, 10, api.ErrNone},
		{[]int{99, 100, 101, 1000}, 99, api.ErrNone}, {[]int{99, 100, 101, 1000}, 1000, api.OK}, {[]int{99, 100, 101, 1000}, 102, api.ErrNone},
		{[]int{99998, 99999}, 99998, api.OK}, {[]int{99998, 99999}, 99999, api.OK}, {[]int{99999}, 1, api.ErrNone}, {[]int{99999}, 99998, api.ErrNone}, {[]int{1, 99999}, 1, api.ErrNone}, {[]int{1, 99999}, 2, api.ErrNone},
		{[]int{1, 2, 3, 4, 5, 6, 7, 8, 9, 10, 11, 12, 13, 14, 15, 16}, 1, api.OK}, {[]int{1, 2, 3, 4, 5, 6, 7, 9, 10, 11, 12, 13, 14, 15, 16}, 1, api.ErrNone},
		{[]int{1, 2, 4, 5, 7}, 1, api.ErrNone}, {[]int{2, 3}, 1, api.ErrNone}, {[]int{3, 4}, 1, api.ErrNone},
	} {
		files := map[string]string{}
		var records []string
		for _, n := range c.numbers {
			files[segment(n)] = a
			if n >= c.first {
				records = append(records, "a")
			}
		}
		d := fill(t, files)
		what := fmt.Sprint(c.numbers)
		if c.want == api.OK {
			checkOpen(t, what, d, c.first, 100, records...)
			continue
		}
		checkRefused(t, what, d, c.first, c.want)
	}
}

// Files that are no segments, and lower segments, aren't the log's: they are neither read nor changed.
func TestOtherFiles(t *testing.T) {
	files := map[string]string{
		"log.4": "broken", "log.5": "\x00", "log.08": wantFrame("no"), "log.0": "no", "log": "no", "log.": "no", "logs.8": "no", "lo.8": "no", "snap.8": "no", "log.100000": "no", "log.8x": "no", "manifest": "no", "log..8": "no",
	}
	d := fill(t, files)
	d.Fuse(0)
	l := checkOpen(t, "others alone", d, 6, 100)
	checkLog(t, "others alone", l, 6, 6, 0)
	checkErr(t, "Sync", l.Sync(), api.OK)
	d.Fuse(-1)
	checkErr(t, "Append", l.Append("a", 0), api.OK)
	checkLog(t, "others, and a segment", l, 6, 6, 11)
	files["log.6"] = wantFrame("a")
	checkFiles(t, "others, and a segment", d, files)
	checkRefused(t, "from 5 on", d, 5, api.ErrForm)
	checkRefused(t, "from 4 on", d, 4, api.ErrSum)
}

// turned is a text with bits of one byte turned.
func turned(s string, at int, by byte) string {
	b := []byte(s)
	b[at] ^= by
	return string(b)
}

func TestATurnedByte(t *testing.T) {
	segments := map[string]string{"log.9": wantFrames("abc", "", "d"), "log.10": wantFrames("e"), "log.11": wantFrames("fg", "", "h")}
	for name, text := range segments {
		for at := range text {
			for bit := range 8 {
				files := map[string]string{}
				for other, s := range segments {
					files[other] = s
				}
				files[name] = turned(text, at, 1<<bit)
				checkRefused(t, fmt.Sprintf("byte %d of %s, bit %d", at, name, bit), fill(t, files), 9, api.ErrSum)
			}
		}
	}
}

func TestATurnedByteByTheDisk(t *testing.T) {
	d := disk.New(mostBytes)
	l := checkOpen(t, "empty", d, 1, 26)
	appendAll(t, l, "abc", "def", "g")
	mustDo(t, "Sync", l.Sync())
	for file, size := range []int{26, 11} {
		for at := range size {
			if !d.Rot(file, at, 0x40) {
				t.Fatalf("no byte %d of file %d", at, file)
			}
			checkRefused(t, fmt.Sprintf("byte %d of file %d", at, file), d, 1, api.ErrSum)
			d.Rot(file, at, 0x40)
			checkOpen(t, "turned back", d, 1, 26, "abc", "def", "g")
		}
	}
}

// A turned byte in the head of the last frame is no rest, however few bytes there are behind it.
func TestATurnedByteAndARest(t *testing.T) {
	torn := wantFrame("0123456789")
	for n := 6; n < len(torn); n++ {
		for at := range 6 {
			d := fill(t, map[string]string{"log.1": wantFrame("a") + turned(torn[:n], at, 1)})
			checkRefused(t, "a turned head", d, 1, api.ErrSum)
		}
		d := fill(t, map[string]string{"log.1": turned(wantFrame("a"), 6, 1) + torn[:n]})
		checkRefused(t, "a turned one ahead of a rest", d, 1, api.ErrSum)
	}
}

func TestACutSegmentAheadOfTheLast(t *testing.T) {
	text := wantFrames("abc", "", "d")
	ends := []int{0, 13, 23, 34}
	for n := range len(text) + 1 {
		d := fill(t, map[string]string{"log.1": text[:n], "log.2": wantFrame("e")})
		if at := slices.Index(ends, n); at >= 0 {
			checkOpen(t, fmt.Sprintf("whole, cut to %d bytes", n), d, 1, 100, append([]string{"abc", "", "d"}[:at:at], "e")...)
			continue
		}
		checkRefused(t, fmt.Sprintf("cut to %d bytes", n), d, 1, api.ErrForm)
		d = fill(t, map[string]string{"log.1": text[:n], "log.2": ""})
		checkRefused(t, fmt.Sprintf("cut to %d bytes, ahead of an empty one", n), d, 1, api.ErrForm)
		d = fill(t, map[string]string{"log.0": "", "log.1": text, "log.2": text[:n], "log.3": text[:n]})
		checkRefused(t, fmt.Sprintf("cut to %d bytes, both", n), d, 1, api.ErrForm)
	}
}

func TestHeadsThatTellTooMany(t *testing.T) {
	for _, count := range []int{2001, 2002, 4000, 65535} {
		head := wantHead(count)
		for _, behind := range []string{"", "abc", xs(count) + wantSum(xs(count))} {
			checkRefused(t, "in the last one", fill(t, map[string]string{"log.1": wantFrame("a") + head + behind[:min(len(behind), 50000)]}), 1, api.ErrLong)
			checkRefused(t, "ahead of it", fill(t, map[string]string{"log.1": head + behind[:min(len(behind), 50000)], "log.2": wantFrame("a")}), 1, api.ErrLong)
		}
	}
	// 2000 may be: it is a rest.
	checkOpen(t, "2000", fill(t, map[string]string{"log.1": wantFrame("a") + wantHead(2000) + xs(2003)}), 1, 100, "a")
}

func TestTwoFaultsOfOpen(t *testing.T) {
	a := wantFrame("a")
	sum, form, long := turned(a, 6, 1), a[:10], wantHead(2001)
	for _, c := range []struct {
		what  string
		files map[string]string
		first int
		want  api.Errno
	}{
		{"no such first, and a gap", map[string]string{"log.1": a, "log.3": a}, 0, api.ErrArg},
		{"no such first, and a sum", map[string]string{"log.99999": sum}, 100000, api.ErrArg},
		{"a gap, and a sum ahead of it", map[string]string{"log.1": sum, "log.3": a}, 1, api.ErrNone},
		{"a gap, and a sum behind it", map[string]string{"log.1": a, "log.3": sum}, 1, api.ErrNone},
		{"a gap, and a rest", map[string]string{"log.1": a, "log.3": form}, 1, api.ErrNone},
		{"a gap, and one that is cut", map[string]string{"log.1": form, "log.3": a}, 1, api.ErrNone},
		{"none of the first, and a sum", map[string]string{"log.2": sum}, 1, api.ErrNone},
		{"a sum, then a cut one", map[string]string{"log.9": sum, "log.10": form, "log.11": a}, 9, api.ErrSum},
		{"a cut one, then a sum", map[string]string{"log.9": form, "log.10": sum, "log.11": a}, 9, api.ErrForm},
		{"a cut one, then one that is too long", map[string]string{"log.9": form, "log.10": long, "log.11": a}, 9, api.ErrForm},
		{"one that is too long, then a cut one", map[string]string{"log.9": long, "log.10": form, "log.11": a}, 9, api.ErrLong},
		{"one that is too long, then a sum", map[string]string{"log.9": a, "log.10": long, "log.11": sum}, 9, api.ErrLong},
		{"a sum, then one that is too long", map[string]string{"log.9": a, "log.10": sum, "log.11": long}, 9, api.ErrSum},
		{"a sum, and a rest", map[string]string{"log.9": a, "log.10": sum, "log.11": form}, 9, api.ErrSum},
		{"a cut one, and a sum in the last one", map[string]string{"log.9": form, "log.10": sum}, 9, api.ErrForm},
		{"a sum, and a cut one, in one", map[string]string{"log.9": a + sum + form, "log.10": a}, 9, api.ErrSum},
		{"a sum, and a rest, in the last one", map[string]string{"log.9": a, "log.10": a + sum + form}, 9, api.ErrSum},
		{"a cut one, and a whole one behind it, in one", map[string]string{"log.9": form + a, "log.10": a}, 9, api.ErrSum},
	} {
		d := fill(t, c.files)
		checkRefused(t, c.what, d, c.first, c.want)
		// Power counts last of all, and isn't asked for.
		d.Fuse(0)
		checkRefused(t, c.what+", no power", d, c.first, c.want)
		if d.Down() {
			t.Errorf("%s: there was an operation", c.what)
		}
	}
}

func TestTwoFaultsOfAppend(t *testing.T) {
	long := xs(2001)
	d := disk.New(100)
	l := checkOpen(t, "empty", d, lastNumber, 10)
	checkErr(t, "too long, and no room", l.Append(long, 0), api.ErrLong)
	appendAll(t, l, "a")
	checkErr(t, "too long, and no number", l.Append(long, 0), api.ErrLong)
	checkErr(t, "no number, and no room", l.Append("a", 100), api.ErrOver)
	others(t, d, 14)
	checkErr(t, "no number, and no files", l.Append("a", 0), api.ErrOver)
	d.Fuse(0)
	checkErr(t, "too long, and no power", l.Append(long, 0), api.ErrLong)
	checkErr(t, "no number, and no power", l.Append("a", 0), api.ErrOver)

	d = disk.New(100)
	l = checkOpen(t, "empty", d, 1, 10)
	others(t, d, 14)
	d.Fuse(0)
	checkErr(t, "too long, and no files", l.Append(long, 0), api.ErrLong)
	checkErr(t, "no files, and no power", l.Append("a", 0), api.ErrFull)
	checkErr(t, "no files, no room and no power", l.Append("a", 100), api.ErrFull)
	checkErr(t, "Sync, and nothing there", l.Sync(), api.OK)
	if d.Down() {
		t.Error("a refused Append did an operation")
	}

	d = disk.New(100)
	l = checkOpen(t, "empty", d, 1, 10)
	appendAll(t, l, "a")
	d.Fuse(0)
	checkErr(t, "no room, and no power", l.Append("a", 79), api.ErrFull)
	if d.Down() {
		t.Error("a refused Append did an operation")
	}
	checkErr(t, "room, and no power", l.Append("a", 78), api.ErrDown)
	checkErr(t, "no room, and no power, as has come out", l.Append("a", 79), api.ErrFull)
}

// checkOperations holds what a call does against the operations that the document tells, with power that fails ahead of each of them, and with power that stays.
func checkOperations(t *testing.T, what string, made func() *disk.Disk, ops []op, want api.Errno, ready func(d *disk.Disk) func() api.Errno) {
	t.Helper()
	for fuse := -1; fuse <= len(ops)+2; fuse++ {
		d, twin := made(), made()
		call := ready(d)
		ready(twin)
		d.Fuse(fuse)
		twin.Fuse(fuse)
		what := fmt.Sprintf("%s, with a fuse of %d", what, fuse)
		fault := want
		if refused := play(twin, ops); refused != api.OK {
			fault = refused
		}
		checkErr(t, what, call(), fault)
		checkSame(t, what, d, twin)
		if got, want := left(d), left(twin); got != want {
			t.Errorf("%s: %d operations are left, not %d", what, got, want)
		}
		for _, last := range []int{5, 10} {
			d.Crash(last)
			twin.Crash(last)
			checkSame(t, what+", crashed", d, twin)
		}
	}
}

func TestOperationsOfOpen(t *testing.T) {
	a, none := wantFrame("a"), []op(nil)
	for _, c := range []struct {
		what  string
		files map[string]string
		first int
		ops   []op
		want  api.Errno
	}{
		{"nothing", nil, 1, none, api.OK},
		{"whole ones", map[string]string{"log.1": a, "log.2": a}, 1, none, api.OK},
		{"an empty one", map[string]string{"log.1": a, "log.2": ""}, 1, none, api.OK},
		{"a rest", map[string]string{"log.1": a, "log.2": a + a[:9]}, 1, []op{{kind: "cut", name: "log.2", n: 11}}, api.OK},
		{"a rest alone", map[string]string{"log.9": a, "log.10": a[:1]}, 9, []op{{kind: "cut", name: "log.10"}}, api.OK},
		{"a rest behind lower ones", map[string]string{"log.1": a[:3], "log.2": a[:5]}, 2, []op{{kind: "cut", name: "log.2"}}, api.OK},
		{"a lower one with a rest", map[string]string{"log.1": a[:3], "log.2": a}, 2, none, api.OK},
		{"a gap", map[string]string{"log.1": a, "log.3": a[:3]}, 1, none, api.ErrNone},
		{"a cut one and a rest", map[string]string{"log.1": a[:3], "log.2": a[:3]}, 1, none, api.ErrForm},
		{"a turned one and a rest", map[string]string{"log.1": turned(a, 3, 4), "log.2": a[:3]}, 1, none, api.ErrSum},
		{"no such first", map[string]string{"log.1": a[:3]}, 0, none, api.ErrArg},
	} {
		made := func() *disk.Disk { return fill(t, c.files) }
		checkOperations(t, c.what, made, c.ops, c.want, func(d *disk.Disk) func() api.Errno {
			return func() api.Errno {
				l, records, fault := Open(d, c.first, 100)
				if (l != nil) != (fault == api.OK) || fault != api.OK && len(records) != 0 {
					t.Errorf("%s: Open answers %v, %q, %d", c.what, l != nil, records, fault)
				}
				return fault
			}
		})
	}
}

func opened(t *testing.T, d *disk.Disk, limit int) *Log {
	t.Helper()
	l, _, fault := Open(d, 1, limit)
	mustDo(t, "Open", fault)
	return l
}

// logs are disks with the log's segments on them, sure and not, for the calls of a log.
func logs(t *testing.T) map[string]func() *disk.Disk {
	t.Helper()
	a := wantFrame("a")
	unsure := func(files ...string) func() *disk.Disk {
		return func() *disk.Disk {
			d := disk.New(mostBytes)
			mustDo(t, "another file", d.Append("snap.1", "not sure"))
			for i := 0; i < len(files); i += 2 {
				mustDo(t, "a segment", d.Append(files[i], files[i+1]))
			}
			return d
		}
	}
	return map[string]func() *disk.Disk{
		"nothing":           unsure(),
		"one":               unsure("log.1", a),
		"one, empty":        unsure("log.1", ""),
		"two":               unsure("log.1", a+a, "log.2", a),
		"two, one empty":    unsure("log.1", a+a, "log.2", ""),
		"all sure":          func() *disk.Disk { return fill(t, map[string]string{"log.1": a + a, "log.2": a}) },
		"up to ten":         unsure("log.1", a, "log.2", a, "log.3", a, "log.4", a, "log.5", a, "log.6", a, "log.7", a, "log.8", a, "log.9", a, "log.10", a),
		"fourteen of them":  unsure("log.1", a, "log.2", a, "log.3", a, "log.4", a, "log.5", a, "log.6", a, "log.7", a, "log.8", a, "log.9", a, "log.10", a, "log.11", a, "log.12", a, "log.13", a),
		"the first is full": unsure("log.1", wantFrame(xs(2000))),
	}
}

func TestOperationsOfAppendAndSync(t *testing.T) {
	for where, made := range logs(t) {
		for _, limit := range []int{0, 22, 33, 100} {
			first := made()
			what := fmt.Sprintf("%s, limit %d", where, limit)
			checkOperations(t, what+", Sync", made, wantSync(first, 1), api.OK, func(d *disk.Disk) func() api.Errno {
				return opened(t, d, limit).Sync
			})
			for _, s := range []string{"", "b", xs(2000), xs(2001)} {
				for _, rest := range []int{-1, 0, 100, mostBytes, math.MaxInt} {
					ops, fault := wantAppend(first, 1, limit, s, rest)
					what := fmt.Sprintf("%s, Append of %d bytes, rest %d", what, len(s), rest)
					checkOperations(t, what, made, ops, fault, func(d *disk.Disk) func() api.Errno {
						l := opened(t, d, limit)
						return func() api.Errno { return l.Append(s, rest) }
					})
				}
			}
		}
	}
}

// Some of them literally, apart from the model.
func TestOperationsLiterally(t *testing.T) {
	a := wantFrame("a")
	made := func() *disk.Disk {
		d := disk.New(mostBytes)
		mustDo(t, "a segment", d.Append("log.1", a+a))
		return d
	}
	call := func(limit int, s string) func(d *disk.Disk) func() api.Errno {
		return func(d *disk.Disk) func() api.Errno {
			l := opened(t, d, limit)
			return func() api.Errno { return l.Append(s, 0) }
		}
	}
	next := []op{{kind: "sync", name: "log.1"}, {kind: "append", name: "log.2", s: wantFrame("bc")}}
	checkOperations(t, "the next one", made, next, api.OK, call(33, "bc"))
	same := []op{{kind: "append", name: "log.1", s: wantFrame("bc")}}
	checkOperations(t, "the same one", made, same, api.OK, call(34, "bc"))
	checkOperations(t, "too long", made, nil, api.ErrLong, call(34, xs(2001)))
	checkOperations(t, "Sync", made, []op{{kind: "sync", name: "log.1"}}, api.OK, func(d *disk.Disk) func() api.Errno {
		return opened(t, d, 34).Sync
	})
	empty := func() *disk.Disk { return disk.New(mostBytes) }
	checkOperations(t, "the first one", empty, []op{{kind: "append", name: "log.1", s: wantFrame("bc")}}, api.OK, call(0, "bc"))
	checkOperations(t, "Sync of nothing", empty, nil, api.OK, func(d *disk.Disk) func() api.Errno {
		return opened(t, d, 34).Sync
	})
}

// act is what is done with a log: a record is appended, or all is synced.
type act struct {
	s    string
	sync bool
}

// doAll does acts with a log on an empty disk, till the power fails, and answers the records that were appended, and how many of them were synced.
func doAll(t *testing.T, acts []act, first, limit, fuse int) (*disk.Disk, []string, int) {
	t.Helper()
	d := disk.New(mostBytes)
	l := checkOpen(t, "empty", d, first, limit)
	d.Fuse(fuse)
	var records []string
	synced := 0
	for _, a := range acts {
		if a.sync {
			if l.Sync() == api.OK {
				synced = len(records)
			}
			continue
		}
		last := l.Last()
		fault := l.Append(a.s, 0)
		// Ahead of a new segment all that was there is synced.
		if l.Last() != last {
			synced = len(records)
		}
		switch fault {
		case api.OK:
			records = append(records, a.s)
		case api.ErrDown:
		default:
			t.Fatalf("Append of %d bytes: %d", len(a.s), fault)
		}
	}
	return d, records, synced
}

// whole answers how many of the frames of records there are among so many bytes.
func whole(records []string, size int) int {
	for n, s := range records {
		size -= len(s) + 10
		if size < 0 {
			return n
		}
	}
	return len(records)
}

// checkCrash lets so many bytes last, opens the log again, and goes on with it.
func checkCrash(t *testing.T, what string, d *disk.Disk, first, limit, last int, records []string, synced int) {
	t.Helper()
	size := d.Used() - d.Waits() + min(last, d.Waits())
	d.Crash(last)
	kept := records[:whole(records, size)]
	if len(kept) < synced {
		t.Errorf("%s: %d records are there, and %d were synced", what, len(kept), synced)
	}
	// Also where the power fails in that Open, as often as it may.
	torn := size > len(wantFrames(kept...))
	for range 2 {
		d.Fuse(0)
		l, got, fault := Open(d, first, limit)
		if torn && (l != nil || len(got) != 0 || fault != api.ErrDown) || !torn && (fault != api.OK || !slices.Equal(got, kept)) {
			t.Errorf("%s: Open without power: %q, %d", what, got, fault)
		}
		d.Crash(last)
	}
	l := checkOpen(t, what, d, first, limit, kept...)
	if d.Waits() != 0 || l.Bytes() != len(wantFrames(kept...)) {
		t.Errorf("%s: %d bytes aren't sure, of %d", what, d.Waits(), l.Bytes())
	}
	appendAll(t, l, "more", "and more")
	mustDo(t, what, l.Sync())
	d.Crash(0)
	checkOpen(t, what+", and more", d, first, limit, append(slices.Clone(kept), "more", "and more")...)
}

func TestBehindACrash(t *testing.T) {
	acts := []act{{s: "abc"}, {s: ""}, {sync: true}, {s: "defg"}, {s: "h"}, {s: "ijk"}, {sync: true}, {sync: true}, {s: ""}, {s: "0123456789"}, {s: "l"}, {s: "m"}}
	for _, limit := range []int{0, 20, 24, 37, 50, mostBytes} {
		whole, _, _ := doAll(t, acts, 9, limit, -1)
		if l := checkOpen(t, "all", whole, 9, limit, "abc", "", "defg", "h", "ijk", "", "0123456789", "l", "m"); limit == mostBytes && l.Last() != 9 {
			t.Errorf("there are segments up to %d", l.Last())
		}
		// At most one Sync and one Append each.
		for fuse := -1; fuse <= 2*len(acts); fuse++ {
			first, _, _ := doAll(t, acts, 9, limit, fuse)
			for last := -1; last <= first.Waits()+1; last++ {
				d, records, synced := doAll(t, acts, 9, limit, fuse)
				checkCrash(t, fmt.Sprintf("limit %d, fuse %d, %d bytes last", limit, fuse, last), d, 9, limit, max(last, 0), records, synced)
			}
		}
	}
}

func TestBehindACrashAtRandom(t *testing.T) {
	pick := rand.New(rand.NewSource(11))
	for run := range 1500 {
		var acts []act
		for range 1 + pick.Intn(20) {
			n := pick.Intn(12)
			if pick.Intn(8) == 0 {
				n = pick.Intn(mostContent + 1)
			}
			b := make([]byte, n)
			pick.Read(b)
			acts = append(acts, act{s: string(b), sync: pick.Intn(4) == 0})
		}
		// So many bytes that there are few enough segments.
		limit := 300 + pick.Intn(3000)
		fuse := pick.Intn(3*len(acts)) - 1
		first := []int{1, 9, 99, 9998, 99900}[pick.Intn(5)]
		d, records, synced := doAll(t, acts, first, limit, fuse)
		last := pick.Intn(d.Waits() + 2)
		checkCrash(t, fmt.Sprintf("run %d, limit %d, fuse %d, %d bytes last", run, limit, fuse, last), d, first, limit, last, records, synced)
	}
}

func TestPowerFailsInSync(t *testing.T) {
	d := disk.New(mostBytes)
	l := checkOpen(t, "empty", d, 1, 100)
	appendAll(t, l, "a", "b")
	mustDo(t, "Sync", l.Sync())
	appendAll(t, l, "c")
	d.Fuse(0)
	for range 3 {
		checkErr(t, "Sync without power", l.Sync(), api.ErrDown)
		checkErr(t, "Append without power", l.Append("d", 0), api.ErrDown)
		checkLog(t, "without power", l, 1, 1, 33)
	}
	d.Crash(10)
	checkOpen(t, "one byte was missing", d, 1, 100, "a", "b")
}

func TestPowerFailsAtTheNextSegment(t *testing.T) {
	for fuse := range 3 {
		d := disk.New(mostBytes)
		l := checkOpen(t, "empty", d, 1, 11)
		appendAll(t, l, "a")
		d.Fuse(fuse)
		want, last, sure := api.ErrDown, 1, []int{0, 11, 11}[fuse]
		if fuse == 2 {
			want, last = api.OK, 2
		}
		checkErr(t, fmt.Sprintf("fuse %d", fuse), l.Append("b", 0), want)
		checkLog(t, fmt.Sprintf("fuse %d", fuse), l, 1, last, 11*last)
		if d.Sure("log.1") != sure || isThere(d, "log.2") != (fuse == 2) {
			t.Errorf("fuse %d: %d bytes are sure, and there are %v", fuse, d.Sure("log.1"), d.Names())
		}
	}
}

// A file of which nothing is left stays, empty: the log goes on with it.
func TestANewSegmentOfWhichNothingLasts(t *testing.T) {
	d := disk.New(mostBytes)
	l := checkOpen(t, "empty", d, 1, 11)
	appendAll(t, l, "a", "b")
	d.Crash(0)
	checkFiles(t, "crashed", d, map[string]string{"log.1": wantFrame("a"), "log.2": ""})
	m := checkOpen(t, "crashed", d, 1, 11, "a")
	checkLog(t, "crashed", m, 1, 2, 11)
	appendAll(t, m, "long enough", "c")
	checkFiles(t, "going on", d, map[string]string{"log.1": wantFrame("a"), "log.2": wantFrame("long enough"), "log.3": wantFrame("c")})
}

// What a log answers is what its disk has, also behind a crash and what others do.
func TestTheDiskIsAskedAnew(t *testing.T) {
	d := disk.New(mostBytes)
	l := checkOpen(t, "empty", d, 2, 22)
	appendAll(t, l, "a", "b")
	mustDo(t, "Sync", l.Sync())
	appendAll(t, l, "c")
	d.Crash(4)
	checkLog(t, "crashed", l, 2, 3, 26)
	m := checkOpen(t, "another one", d, 2, 11, "a", "b")
	checkLog(t, "the first one", l, 2, 3, 22)
	appendAll(t, m, "c", "d")
	checkLog(t, "the first one", l, 2, 4, 44)
	checkLog(t, "the other one", m, 2, 4, 44)
	appendAll(t, l, "e")
	checkFiles(t, "both", d, map[string]string{"log.2": wantFrames("a", "b"), "log.3": wantFrame("c"), "log.4": wantFrames("d", "e")})
	mustDo(t, "Remove", d.Remove("log.4"))
	mustDo(t, "Remove", d.Remove("log.3"))
	checkLog(t, "the first one", l, 2, 2, 22)
	mustDo(t, "Remove", d.Remove("log.2"))
	checkLog(t, "the first one", l, 2, 2, 0)
	checkErr(t, "Sync", l.Sync(), api.OK)
	appendAll(t, l, "f")
	checkFiles(t, "from the beginning", d, map[string]string{"log.2": wantFrame("f")})
}

func TestLogsOfTwoDisks(t *testing.T) {
	one, two := disk.New(mostBytes), disk.New(mostBytes)
	l := checkOpen(t, "one", one, 1, 11)
	m := checkOpen(t, "two", two, 5, 100)
	appendAll(t, l, "a", "b")
	appendAll(t, m, "c", "d", "e")
	checkLog(t, "one", l, 1, 2, 22)
	checkLog(t, "two", m, 5, 5, 33)
	checkOpen(t, "one", one, 1, 11, "a", "b")
	checkOpen(t, "two", two, 5, 11, "c", "d", "e")
}

func TestRecordsAreTheCallersOwn(t *testing.T) {
	d := disk.New(mostBytes)
	appendAll(t, checkOpen(t, "empty", d, 1, 22), "a", "b", "c")
	_, records, _ := Open(d, 1, 22)
	for i := range records {
		records[i] = "changed"
	}
	_ = append(records, "changed")
	_, kept, _ := Open(d, 1, 22)
	mustDo(t, "Cut", d.Cut("log.1", 0))
	appendAll(t, checkOpen(t, "cut", d, 1, 22, "c"), "d")
	if !slices.Equal(kept, []string{"a", "b", "c"}) {
		t.Errorf("the records became %q", kept)
	}
}

func TestSameAnswerAgain(t *testing.T) {
	d := fill(t, map[string]string{"log.1": wantFrames("a", ""), "log.2": wantFrame("b")})
	for range 3 {
		l := checkOpen(t, "again", d, 1, 22, "a", "", "b")
		for range 3 {
			checkLog(t, "again", l, 1, 2, 32)
			checkErr(t, "too long", l.Append(xs(2001), 0), api.ErrLong)
			checkErr(t, "no room", l.Append("", greatest), api.ErrFull)
			checkErr(t, "Sync", l.Sync(), api.OK)
		}
		checkRefused(t, "no such first", d, 0, api.ErrArg)
	}
}

// pair is a log on a disk, and another disk on which what the document tells is done.
type pair struct {
	d, twin *disk.Disk
	l       *Log
	first   int
	limit   int
}

func (p *pair) open(t *testing.T, what string, first, limit int) {
	t.Helper()
	records, ops, want := wantOpen(p.twin, first)
	if want == api.OK {
		want = play(p.twin, ops)
	}
	if want != api.OK {
		records = nil
	}
	l, got, fault := Open(p.d, first, limit)
	if fault != want || !slices.Equal(got, records) || (l != nil) != (want == api.OK) {
		t.Fatalf("%s: Open from %d on with %d: %v, %d records, %d, not %d records, %d", what, first, limit, l != nil, len(got), fault, len(records), want)
	}
	if l != nil {
		p.l, p.first, p.limit = l, first, limit
	}
}

func (p *pair) append(t *testing.T, what, s string, rest int) {
	t.Helper()
	if p.l == nil {
		return
	}
	ops, want := wantAppend(p.twin, p.first, p.limit, s, rest)
	if want == api.OK {
		want = play(p.twin, ops)
	}
	checkErr(t, fmt.Sprintf("%s: Append of %d bytes, rest %d", what, len(s), rest), p.l.Append(s, rest), want)
}

func (p *pair) sync(t *testing.T, what string) {
	t.Helper()
	if p.l != nil {
		checkErr(t, what+": Sync", p.l.Sync(), play(p.twin, wantSync(p.twin, p.first)))
	}
}

// both does with each of the disks what others may do.
func (p *pair) both(do func(d *disk.Disk)) {
	do(p.d)
	do(p.twin)
}

func (p *pair) disturb(pick *rand.Rand) {
	n, name := pick.Intn(60), segment([]int{1, 2, 3, 9, 10, 11, 99998, 99999}[pick.Intn(8)])
	other, s := fmt.Sprintf("x%d", pick.Intn(20)), wantFrame(xs(pick.Intn(3)))
	switch kind := pick.Intn(12); kind {
	case 0, 1, 2:
		p.both(func(d *disk.Disk) { d.Crash(n) })
	case 3:
		p.both(func(d *disk.Disk) { d.Fuse(n % 4) })
	case 4:
		p.both(func(d *disk.Disk) { d.Append(other, xs(n)) })
	case 5, 6:
		p.both(func(d *disk.Disk) { d.Remove(other) })
	case 7:
		p.both(func(d *disk.Disk) { d.Remove(name) })
	case 8:
		p.both(func(d *disk.Disk) { d.Append(name, s[:len(s)-n/50]) })
	case 9:
		p.both(func(d *disk.Disk) { d.Cut(name, n) })
	case 10:
		p.both(func(d *disk.Disk) { d.Room(n * 20) })
	case 11:
		p.both(func(d *disk.Disk) { d.Rot(n%8, n/2, 1<<(n%8)) })
	}
}

func TestLongRunsLikeTheModel(t *testing.T) {
	pick := rand.New(rand.NewSource(34))
	firsts := []int{1, 1, 2, 9, 10, 99998, 99999, 0, 100000}
	limits := []int{-1, 0, 20, 30, 31, 100, 1000, math.MaxInt}
	for run := range 400 {
		p := &pair{d: disk.New(1000), twin: disk.New(1000)}
		base := firsts[pick.Intn(7)]
		for step := range 80 {
			what := fmt.Sprintf("run %d, step %d", run, step)
			switch pick.Intn(12) {
			case 0, 1:
				p.open(t, what, base, limits[pick.Intn(len(limits))])
			case 2:
				p.open(t, what, firsts[pick.Intn(len(firsts))], limits[pick.Intn(len(limits))])
			case 3, 4, 5, 6, 7:
				p.append(t, what, xs(pick.Intn(12)), 0)
			case 8:
				p.append(t, what, xs([]int{0, 100, 500, 2000, 2001}[pick.Intn(5)]), farInts[pick.Intn(len(farInts))])
			case 9:
				p.sync(t, what)
			default:
				p.disturb(pick)
			}
			checkSame(t, what, p.d, p.twin)
			if p.l != nil {
				checkLog(t, what, p.l, p.first, wantLast(p.twin, p.first), wantBytes(p.twin, p.first))
			}
			if t.Failed() {
				t.FailNow()
			}
		}
	}
}

func TestNoCallPanics(t *testing.T) {
	disks := func() []*disk.Disk {
		full := fill(t, map[string]string{"log.1": xs(60000)})
		down := fill(t, map[string]string{"log.1": wantFrame("a") + "\x00"})
		down.Fuse(0)
		down.Remove("log.1")
		return []*disk.Disk{nil, {}, disk.New(0), disk.New(math.MaxInt), full, down, fill(t, map[string]string{"log.99999": "", "log.2": "\x00"})}
	}
	for _, first := range farInts {
		for _, limit := range farInts {
			for _, d := range disks() {
				l, _, _ := Open(d, first, limit)
				for _, rest := range farInts {
					for _, s := range []string{"", "\xff\x00", xs(2000), xs(2001)} {
						l.Append(s, rest)
					}
					l.Sync()
				}
				l.First()
				l.Last()
				l.Bytes()
			}
		}
	}
}
