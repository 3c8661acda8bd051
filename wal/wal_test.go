package wal

import (
	"encoding/binary"
	"fmt"
	"hash/crc32"
	"math"
	"math/rand"
	"regexp"
	"slices"
	"sort"
	"strconv"
	"strings"
	"sync"
	"testing"

	"concierge/api"
	"concierge/disk"
)

// The limits as the document writes them out, so that the tests do not lean on the program's own.
const (
	lastNumber  = 99999
	mostContent = 2000
	mostFiles   = 16
	mostBytes   = 60000
	greatest    = 1 << 30
)

// The manifest of 2 byte for byte, apart from the model.
const manifestOf2 = "\x00\x04\x46\xb4\xd6\xe6" + "cg1\x02" + "\x6d\x1c\x3c\xca"

var farInts = []int{
	math.MinInt, math.MinInt + 1, -1 << 32, -greatest, -2, -1, 0, 1, 2, 10, 11, 2000, 2001, mostBytes - 1, mostBytes, mostBytes + 1, lastNumber, lastNumber + 1,
	greatest - 1, greatest, greatest + 1, 1<<32 + 1, 1 << 40, math.MaxInt - 2010, math.MaxInt - 1, math.MaxInt,
}

// numberedName is the document's name of a word and a number, apart from how the program reads it.
var numberedName = regexp.MustCompile(`\A(snap|log)\.([1-9][0-9]{0,4})\z`)

// op is an operation of a disk.
type op struct {
	kind, name, s string
	n             int
}

func (o op) do(d *disk.Disk) api.Errno {
	switch o.kind {
	case "append":
		return d.Append(o.name, o.s)
	case "sync":
		return d.Sync(o.name)
	case "cut":
		return d.Cut(o.name, o.n)
	case "rename":
		return d.Rename(o.name, o.s)
	case "remove":
		return d.Remove(o.name)
	}
	panic(o.kind)
}

// play does operations, up to the first one that is refused.
func play(d *disk.Disk, ops []op) api.Errno {
	for _, o := range ops {
		if fault := o.do(d); fault != api.OK {
			return fault
		}
	}
	return api.OK
}

func snap(n int) string {
	return fmt.Sprintf("snap.%d", n)
}

func segment(n int) string {
	return fmt.Sprintf("log.%d", n)
}

func wantSum(s string) string {
	return string(binary.BigEndian.AppendUint32(nil, crc32.ChecksumIEEE([]byte(s))))
}

// wantHead is a head with the right sum, also of a number that may not be.
func wantHead(count int) string {
	told := string(binary.BigEndian.AppendUint16(nil, uint16(count)))
	return told + wantSum(told)
}

func wantFrame(content string) string {
	return wantHead(len(content)) + content + wantSum(content)
}

func wantFrames(contents ...string) string {
	var all strings.Builder
	for _, content := range contents {
		all.WriteString(wantFrame(content))
	}
	return all.String()
}

func wantSplit(s string) ([]string, int, api.Errno) {
	var contents []string
	behind := 0
	for rest := s; rest != ""; rest = s[behind:] {
		if len(rest) < 6 {
			return contents, behind, api.ErrForm
		}
		if wantSum(rest[:2]) != rest[2:6] {
			return contents, behind, api.ErrSum
		}
		count := int(rest[0])*256 + int(rest[1])
		if count > mostContent {
			return contents, behind, api.ErrLong
		}
		if len(rest) < count+10 {
			return contents, behind, api.ErrForm
		}
		if wantSum(rest[6:6+count]) != rest[6+count:10+count] {
			return contents, behind, api.ErrSum
		}
		contents = append(contents, rest[6:6+count])
		behind += count + 10
	}
	return contents, behind, api.OK
}

// wantDigits are the bytes of a number up to 2097151.
func wantDigits(n int) string {
	switch {
	case n < 128:
		return string([]byte{byte(n)})
	case n < 128*128:
		return string([]byte{byte(128 + n/128), byte(n % 128)})
	}
	return string([]byte{byte(128 + n/(128*128)), byte(128 + n/128%128), byte(n % 128)})
}

func wantForm(n int) string {
	return wantFrame("cg1" + wantDigits(n))
}

// wantNumbers are the numbers by their manifests: what isn't among these is none.
var wantNumbers = sync.OnceValue(func() map[string]int {
	numbers := map[string]int{}
	for n := 2; n <= lastNumber; n++ {
		numbers[wantForm(n)] = n
	}
	return numbers
})

func wantManifest(d *disk.Disk) (int, api.Errno) {
	if !isThere(d, "manifest") {
		return 1, api.OK
	}
	text := textOf(d, "manifest")
	if n, ok := wantNumbers()[text]; ok {
		return n, api.OK
	}
	contents, _, fault := wantSplit(text)
	// Behind a first frame that is whole all else is a matter of form.
	if len(contents) > 0 || fault == api.OK {
		fault = api.ErrForm
	}
	return 0, fault
}

func isThere(d *disk.Disk, name string) bool {
	return slices.Contains(d.Names(), name)
}

func textOf(d *disk.Disk, name string) string {
	text, _ := d.Read(name)
	return text
}

// wantAll are the numbers of a word, by the disk's names.
func wantAll(d *disk.Disk, word string) []int {
	var numbers []int
	for _, name := range d.Names() {
		if parts := numberedName.FindStringSubmatch(name); parts != nil && parts[1] == word {
			n, _ := strconv.Atoi(parts[2])
			numbers = append(numbers, n)
		}
	}
	sort.Ints(numbers)
	return numbers
}

func broughtNumber(n int) int {
	switch {
	case n < 0:
		return 0
	case n > greatest:
		return greatest
	}
	return n
}

// model does on a disk of its own what the document tells, one operation behind the other.
type model struct {
	d             *disk.Disk
	number, limit int
}

// segments are the numbers of the log's.
func (m *model) segments() []int {
	var numbers []int
	for _, n := range wantAll(m.d, "log") {
		if n >= m.number {
			numbers = append(numbers, n)
		}
	}
	return numbers
}

func (m *model) last() int {
	last := m.number
	for _, n := range m.segments() {
		last = n
	}
	return last
}

func (m *model) bytes() int {
	size := 0
	for _, n := range m.segments() {
		size += len(textOf(m.d, segment(n)))
	}
	return size
}

// draftAway are the operations by which there is no draft.
func (m *model) draftAway() []op {
	if !isThere(m.d, "manifest.new") {
		return nil
	}
	return []op{{kind: "remove", name: "manifest.new"}}
}

// wantLog answers the records of the log, and the operations by which it is opened.
func (m *model) wantLog() ([]string, []op, api.Errno) {
	numbers := m.segments()
	if len(numbers) > 0 && (numbers[0] != m.number || m.last() != m.number+len(numbers)-1) {
		return nil, nil, api.ErrNone
	}
	var records []string
	var ops []op
	for _, n := range numbers {
		contents, size, fault := wantSplit(textOf(m.d, segment(n)))
		if fault == api.ErrForm && n == m.last() {
			ops = append(ops, op{kind: "cut", name: segment(n), n: size})
		} else if fault != api.OK {
			return nil, nil, fault
		}
		records = append(records, contents...)
	}
	return records, ops, api.OK
}

// wantOpen opens what is on a disk; with a fault there is no model.
func wantOpen(d *disk.Disk, limit int) (*model, string, []string, api.Errno) {
	if d == nil {
		return nil, "", nil, api.ErrArg
	}
	number, fault := wantManifest(d)
	if fault != api.OK {
		return nil, "", nil, fault
	}
	base := ""
	if number > 1 {
		if !isThere(d, snap(number)) {
			return nil, "", nil, api.ErrNone
		}
		base = textOf(d, snap(number))
	}
	m := &model{d, number, limit}
	records, ops, fault := m.wantLog()
	if fault != api.OK {
		return nil, "", nil, fault
	}
	ops = append(ops, m.draftAway()...)
	for _, n := range wantAll(d, "snap") {
		if n != number {
			ops = append(ops, op{kind: "remove", name: snap(n)})
		}
	}
	ops = append(ops, m.lower("log", number)...)
	if fault := play(d, ops); fault != api.OK {
		return nil, "", nil, fault
	}
	return m, base, records, api.OK
}

// lower are the operations by which the files of a word with lower numbers go.
func (m *model) lower(word string, number int) []op {
	var ops []op
	for _, n := range wantAll(m.d, word) {
		if n < number {
			ops = append(ops, op{kind: "remove", name: fmt.Sprintf("%s.%d", word, n)})
		}
	}
	return ops
}

func (m *model) append(s string, rest int) api.Errno {
	if len(s) > mostContent {
		return api.ErrLong
	}
	var ops []op
	to := m.last()
	has := len(textOf(m.d, segment(to)))
	if has > 0 && has+len(s)+10 > broughtNumber(m.limit) {
		ops = append(ops, op{kind: "sync", name: segment(to)})
		to++
	}
	if to == lastNumber+1 {
		return api.ErrOver
	}
	if !isThere(m.d, segment(to)) && len(m.d.Names()) > mostFiles-3 {
		return api.ErrFull
	}
	if len(s)+10+broughtNumber(rest) > m.d.Free() {
		return api.ErrFull
	}
	return play(m.d, append(ops, op{kind: "append", name: segment(to), s: wantFrame(s)}))
}

func (m *model) sync() api.Errno {
	last := segment(m.last())
	if !isThere(m.d, last) {
		return api.OK
	}
	return m.d.Sync(last)
}

func (m *model) pack(base string) api.Errno {
	n := m.last() + 1
	if n == lastNumber+1 {
		return api.ErrOver
	}
	if fault := m.sync(); fault != api.OK {
		return fault
	}
	ops := []op{{kind: "append", name: snap(n), s: base}, {kind: "sync", name: snap(n)}}
	ops = append(ops, m.draftAway()...)
	ops = append(ops,
		op{kind: "append", name: "manifest.new", s: wantForm(n)},
		op{kind: "sync", name: "manifest.new"},
		op{kind: "rename", name: "manifest.new", s: "manifest"})
	if fault := play(m.d, ops); fault != api.OK {
		if isThere(m.d, snap(n)) {
			m.d.Remove(snap(n))
		}
		return fault
	}
	m.number = n
	for _, o := range append(m.lower("snap", n), m.lower("log", n)...) {
		o.do(m.d)
	}
	return api.OK
}

// told is all that a disk has, so that what is to stay may be held against what was.
func told(d *disk.Disk) string {
	var b strings.Builder
	for _, name := range d.Names() {
		text, err := d.Read(name)
		fmt.Fprintf(&b, "%s=%x/%d/%d ", name, text, d.Sure(name), err)
	}
	fmt.Fprint(&b, d.Used(), d.Waits(), d.Free(), d.Holes(), d.Down())
	return b.String()
}

// left lets the fuse of a disk burn down: how many operations more were done.
func left(d *disk.Disk) int {
	for n := range 100 {
		if d.Remove("nothing") == api.ErrDown {
			return n
		}
	}
	return -1
}

// short cuts a text that is told in a fault's line.
func short(s string) string {
	return s[:min(len(s), 400)]
}

func xs(n int) string {
	return strings.Repeat("x", n)
}

func turned(s string, at int, by byte) string {
	b := []byte(s)
	b[at] ^= by
	return string(b)
}

func checkErr(t *testing.T, what string, got, want api.Errno) {
	t.Helper()
	if got != want {
		t.Errorf("%s: %d, not %d", what, got, want)
	}
}

func checkSame(t *testing.T, what string, d, twin *disk.Disk) {
	t.Helper()
	if got, want := told(d), told(twin); got != want {
		t.Errorf("%s: the disk is\n%s, not\n%s", what, short(got), short(want))
	}
}

func checkFiles(t *testing.T, what string, d *disk.Disk, files map[string]string) {
	t.Helper()
	if len(d.Names()) != len(files) {
		t.Errorf("%s: there are %v, not %d files", what, d.Names(), len(files))
	}
	for name, want := range files {
		if got, err := d.Read(name); err != api.OK || got != want {
			t.Errorf("%s: %s has %d bytes %x, %d, not %d bytes %x", what, name, len(got), short(got), err, len(want), short(want))
		}
	}
}

func checkWal(t *testing.T, what string, w *Wal, number, bytes int) {
	t.Helper()
	if w.Number() != number || w.Bytes() != bytes {
		t.Errorf("%s: the number %d with %d bytes, not %d with %d", what, w.Number(), w.Bytes(), number, bytes)
	}
}

// checkOpen opens what is right, and answers it.
func checkOpen(t *testing.T, what string, d *disk.Disk, limit, number int, base string, records ...string) *Wal {
	t.Helper()
	w, got, list, fault := Open(d, limit)
	if fault != api.OK || w == nil || got != base || !slices.Equal(list, records) {
		t.Fatalf("%s: Open with %d: %d, the base %q, %d records %s, not %q, %d records %s", what, limit, fault, short(got), len(list), short(fmt.Sprintf("%q", list)), short(base), len(records), short(fmt.Sprintf("%q", records)))
	}
	checkWal(t, what, w, number, len(wantFrames(records...)))
	return w
}

// checkRefused opens what isn't right, which is left as it is.
func checkRefused(t *testing.T, what string, d *disk.Disk, want api.Errno) {
	t.Helper()
	before := told(d)
	for _, limit := range []int{-1, 0, 30, mostBytes, math.MaxInt} {
		w, base, records, fault := Open(d, limit)
		if w != nil || base != "" || len(records) != 0 || fault != want {
			t.Errorf("%s: Open with %d: %v, %q, %q, %d, not %d", what, limit, w != nil, base, records, fault, want)
		}
	}
	if got := told(d); got != before {
		t.Errorf("%s: a refused Open left\n%s, not\n%s", what, short(got), short(before))
	}
}

func mustDo(t *testing.T, what string, err api.Errno) {
	t.Helper()
	if err != api.OK {
		t.Fatalf("%s: %d", what, err)
	}
}

// fill makes a disk with files of which all is sure.
func fill(t *testing.T, files map[string]string) *disk.Disk {
	t.Helper()
	d := disk.New(mostBytes)
	for name, s := range files {
		mustDo(t, name, d.Append(name, s))
		mustDo(t, name, d.Sync(name))
	}
	return d
}

// with are some files, and some others besides, or in place of them.
func with(files map[string]string, pairs ...string) map[string]string {
	all := map[string]string{}
	for name, s := range files {
		all[name] = s
	}
	for i := 0; i < len(pairs); i += 2 {
		all[pairs[i]] = pairs[i+1]
	}
	return all
}

// others makes so many files that are neither base nor log.
func others(t *testing.T, d *disk.Disk, count int) {
	t.Helper()
	for i := range count {
		mustDo(t, "another file", d.Append(fmt.Sprintf("x%d", i), ""))
	}
}

func appendAll(t *testing.T, w *Wal, records ...string) {
	t.Helper()
	for i, s := range records {
		if err := w.Append(s, 0); err != api.OK {
			t.Fatalf("Append of record %d, of %d bytes: %d", i, len(s), err)
		}
	}
}

func TestExampleOfTheDocument(t *testing.T) {
	d := disk.New(mostBytes)
	w := checkOpen(t, "an empty disk", d, 100, 1, "")
	checkErr(t, "Append a", w.Append("a", 0), api.OK)
	checkErr(t, "Pack X", w.Pack("X"), api.OK)
	checkErr(t, "Append b", w.Append("b", 0), api.OK)
	checkWal(t, "behind b", w, 2, 11)
	checkOpen(t, "opened anew", d, 100, 2, "X", "b")
}

func TestOpenOfAnEmptyDisk(t *testing.T) {
	for _, room := range []int{0, 1, 1000, mostBytes} {
		for _, limit := range farInts {
			d := disk.New(room)
			d.Fuse(0)
			w := checkOpen(t, "an empty disk", d, limit, 1, "")
			checkErr(t, "Sync of a log without segments", w.Sync(), api.OK)
			if len(d.Names()) != 0 || d.Down() {
				t.Errorf("there are %v, and the power is off: %v", d.Names(), d.Down())
			}
		}
	}
	checkOpen(t, "a zero disk", &disk.Disk{}, 100, 1, "")
}

// step is a call, and what there is behind it: the files byte for byte, how many bytes aren't sure, the number, and the log's bytes.
type step struct {
	what          string
	call          func(w *Wal) api.Errno
	files         map[string]string
	waits         int
	number, bytes int
}

func put(s string) func(w *Wal) api.Errno {
	return func(w *Wal) api.Errno { return w.Append(s, 0) }
}

func pack(base string) func(w *Wal) api.Errno {
	return func(w *Wal) api.Errno { return w.Pack(base) }
}

func TestFilesAndNumbersBehindEachCall(t *testing.T) {
	const a = "\x00\x01\x36\xde\x22\x69" + "a" + "\xe8\xb7\xbe\x43"
	const b = "\x00\x01\x36\xde\x22\x69" + "b" + "\x71\xbe\xef\xf9"
	const c = "\x00\x01\x36\xde\x22\x69" + "c" + "\x06\xb9\xdf\x6f"
	const manifestOf4 = "\x00\x04\x46\xb4\xd6\xe6" + "cg1\x04" + "\x84\x7f\x99\xff"
	const manifestOf5 = "\x00\x04\x46\xb4\xd6\xe6" + "cg1\x05" + "\xf3\x78\xa9\x69"
	d := disk.New(mostBytes)
	w := checkOpen(t, "an empty disk", d, 22, 1, "")
	base := map[string]string{"manifest": manifestOf2, "snap.2": "a base"}
	empty := map[string]string{"manifest": manifestOf4, "snap.4": ""}
	for _, s := range []step{
		{"Append a", put("a"), map[string]string{"log.1": a}, 11, 1, 11},
		{"Append b", put("b"), map[string]string{"log.1": a + b}, 22, 1, 22},
		{"Sync", (*Wal).Sync, map[string]string{"log.1": a + b}, 0, 1, 22},
		{"Pack", pack("a base"), base, 0, 2, 0},
		{"Sync, and nothing there", (*Wal).Sync, base, 0, 2, 0},
		{"Append a to the later log", put("a"), with(base, "log.2", a), 11, 2, 11},
		{"Append b to the later log", put("b"), with(base, "log.2", a+b), 22, 2, 22},
		{"Append c to the next segment", put("c"), with(base, "log.2", a+b, "log.3", c), 11, 2, 33},
		{"Append a behind it", put("a"), with(base, "log.2", a+b, "log.3", c+a), 22, 2, 44},
		{"a second Pack, of nothing", pack(""), empty, 0, 4, 0},
		{"Append b to the third log", put("b"), with(empty, "log.4", b), 11, 4, 11},
		{"a third Pack", pack("\x00\xff"), map[string]string{"manifest": manifestOf5, "snap.5": "\x00\xff"}, 0, 5, 0},
	} {
		checkErr(t, s.what, s.call(w), api.OK)
		checkFiles(t, s.what, d, s.files)
		checkWal(t, s.what, w, s.number, s.bytes)
		if d.Waits() != s.waits {
			t.Errorf("%s: %d bytes aren't sure, not %d", s.what, d.Waits(), s.waits)
		}
	}
	d.Crash(0)
	checkOpen(t, "opened anew", d, 22, 5, "\x00\xff")
}

func TestAppendSyncPackAppendAndOpenedAnew(t *testing.T) {
	for _, limit := range []int{0, 11, 22, 23, 100, mostBytes} {
		d := disk.New(mostBytes)
		w := checkOpen(t, "an empty disk", d, limit, 1, "")
		appendAll(t, w, "a")
		checkErr(t, "Sync", w.Sync(), api.OK)
		w = checkOpen(t, "behind Sync", d, limit, 1, "", "a")
		checkErr(t, "Pack", w.Pack("X"), api.OK)
		w = checkOpen(t, "behind Pack", d, limit, 2, "X")
		appendAll(t, w, "b", "", "c")
		last := 2
		for _, n := range wantAll(d, "log") {
			last = max(last, n)
		}
		checkWal(t, "behind the records", w, 2, 32)
		w = checkOpen(t, "behind the records", d, limit, 2, "X", "b", "", "c")
		checkErr(t, "a second Pack", w.Pack("Y"), api.OK)
		w = checkOpen(t, "behind a second Pack", d, limit, last+1, "Y")
		checkErr(t, "a third Pack", w.Pack("Z"), api.OK)
		checkOpen(t, "behind a third Pack", d, limit, last+2, "Z")
		checkFiles(t, "behind a third Pack", d, map[string]string{"manifest": wantForm(last + 2), snap(last + 2): "Z"})
	}
}

func TestOpenedAgainAndAgain(t *testing.T) {
	d := disk.New(mostBytes)
	w := checkOpen(t, "an empty disk", d, 30, 1, "")
	mustDo(t, "Pack", w.Pack("base"))
	records := []string{"abc", "def", "", "0123456789012345678901", "\xff\x00", xs(2000), "z"}
	appendAll(t, w, records...)
	before := told(d)
	d.Fuse(0)
	for _, limit := range farInts {
		checkOpen(t, "again", d, limit, 2, "base", records...)
	}
	if told(d) != before {
		t.Errorf("Open did something: %s, not %s", short(told(d)), short(before))
	}
}

func TestBasesOfAnyKind(t *testing.T) {
	d := disk.New(mostBytes)
	w := checkOpen(t, "an empty disk", d, 100, 1, "")
	for i, base := range []string{"", "X", "\x00", "\xff\x00\xed\xa0\x80", wantFrame("abc"), wantFrame("abc")[:9], "cg1\x02", xs(2000), xs(2001), xs(29900), "\u00e9\u20ac", ""} {
		what := fmt.Sprintf("base %d, of %d bytes", i, len(base))
		checkErr(t, what, w.Pack(base), api.OK)
		n := i + 2
		checkFiles(t, what, d, map[string]string{"manifest": wantForm(n), snap(n): base})
		if d.Waits() != 0 {
			t.Errorf("%s: %d bytes aren't sure", what, d.Waits())
		}
		d.Crash(0)
		checkOpen(t, what, d, 100, n, base)
	}
}

// A base that is the empty text is a file all the same.
func TestAnEmptyBase(t *testing.T) {
	d := disk.New(100)
	w := checkOpen(t, "an empty disk", d, 100, 1, "")
	checkErr(t, "Pack of nothing", w.Pack(""), api.OK)
	checkFiles(t, "Pack of nothing", d, map[string]string{"manifest": manifestOf2, "snap.2": ""})
	appendAll(t, w, "a")
	checkOpen(t, "an empty base", d, 100, 2, "", "a")
	mustDo(t, "Remove", d.Remove("snap.2"))
	checkRefused(t, "no base", d, api.ErrNone)
}

func TestALogOfSeveralSegmentsIsPacked(t *testing.T) {
	for _, records := range []int{1, 2, 5, 9, 10, 11} {
		d := disk.New(mostBytes)
		w := checkOpen(t, "an empty disk", d, 0, 1, "")
		for n := range records {
			appendAll(t, w, xs(n))
		}
		if got := wantAll(d, "log"); len(got) != records {
			t.Fatalf("there are the segments %v, not %d", got, records)
		}
		what := fmt.Sprintf("%d segments", records)
		checkErr(t, what, w.Pack(what), api.OK)
		checkFiles(t, what, d, map[string]string{"manifest": wantForm(records + 1), snap(records + 1): what})
		checkWal(t, what, w, records+1, 0)
		for n := range records {
			appendAll(t, w, xs(n))
		}
		checkErr(t, what+", again", w.Pack("again"), api.OK)
		checkFiles(t, what+", again", d, map[string]string{"manifest": wantForm(2*records + 1), snap(2*records + 1): "again"})
		checkOpen(t, what+", again", d, 0, 2*records+1, "again")
	}
}

// The limit is that of Open, also for the log that begins behind a Pack.
func TestLimits(t *testing.T) {
	for _, c := range []struct {
		limit   int
		records []int
		sizes   []int
	}{
		{30, []int{5, 5, 5, 1}, []int{30, 26}},
		{29, []int{5, 5, 5}, []int{15, 15, 15}},
		{31, []int{5, 5, 0}, []int{30, 10}},
		{40, []int{5, 5, 0}, []int{40}},
		{1, []int{0, 0, 7, 0}, []int{10, 10, 17, 10}},
		{0, []int{0, 0, 7, 0}, []int{10, 10, 17, 10}},
		{-1, []int{0, 0, 7, 0}, []int{10, 10, 17, 10}},
		{math.MinInt, []int{0, 0, 7, 0}, []int{10, 10, 17, 10}},
		{10, []int{2000, 0, 0, 2000}, []int{2010, 10, 10, 2010}},
		{2010, []int{2000, 0, 1999, 1, 1990}, []int{2010, 10, 2009, 11, 2000}},
		{mostBytes, []int{2000, 2000, 0, 2000, 1}, []int{6051}},
		{greatest, []int{2000, 2000, 0, 2000, 1}, []int{6051}},
		{greatest + 1, []int{2000, 2000, 0, 2000, 1}, []int{6051}},
		{1 << 32, []int{2000, 2000, 0, 2000, 1}, []int{6051}},
		{math.MaxInt, []int{2000, 2000, 0, 2000, 1}, []int{6051}},
	} {
		d := disk.New(mostBytes)
		w := checkOpen(t, "an empty disk", d, c.limit, 1, "")
		first := 1
		for round := range 3 {
			what := fmt.Sprintf("limit %d, records %v, round %d", c.limit, c.records, round)
			var records []string
			bytes := 0
			for _, n := range c.records {
				records = append(records, xs(n))
				bytes += n + 10
			}
			appendAll(t, w, records...)
			var sizes []int
			for i := range c.sizes {
				sizes = append(sizes, len(textOf(d, segment(first+i))))
			}
			if !slices.Equal(sizes, c.sizes) || len(wantAll(d, "log")) != len(c.sizes) {
				t.Errorf("%s: %v with %v bytes, not %v", what, d.Names(), sizes, c.sizes)
			}
			checkWal(t, what, w, first, bytes)
			checkErr(t, what, w.Pack(what), api.OK)
			first += len(c.sizes)
			checkWal(t, what+", packed", w, first, 0)
		}
	}
}

// Opened anew the limit is the later one.
func TestAnotherLimit(t *testing.T) {
	d := disk.New(mostBytes)
	appendAll(t, checkOpen(t, "22", d, 22, 1, ""), "a", "b")
	appendAll(t, checkOpen(t, "33", d, 33, 1, "", "a", "b"), "c")
	checkFiles(t, "33", d, map[string]string{"log.1": wantFrames("a", "b", "c")})
	w := checkOpen(t, "0", d, 0, 1, "", "a", "b", "c")
	appendAll(t, w, "d")
	mustDo(t, "Pack", w.Pack("X"))
	appendAll(t, w, "e", "f")
	checkFiles(t, "0", d, map[string]string{"manifest": wantForm(3), "snap.3": "X", "log.3": wantFrame("e"), "log.4": wantFrame("f")})
}

func TestRest(t *testing.T) {
	for _, room := range []int{0, 9, 10, 11, 100, 2010, mostBytes} {
		for _, n := range []int{0, 1, 90, 91, 2000} {
			rests := append([]int{room - n - 12, room - n - 11, room - n - 10, room - n - 9, room - n - 8, room, room + 1}, farInts...)
			for _, rest := range rests {
				d := disk.New(room)
				w := checkOpen(t, "an empty disk", d, 100, 1, "")
				want := api.OK
				if n+10+broughtNumber(rest) > room {
					want = api.ErrFull
				}
				what := fmt.Sprintf("room for %d, %d bytes and the rest %d", room, n, rest)
				checkErr(t, what, w.Append(xs(n), rest), want)
				if isThere(d, "log.1") != (want == api.OK) {
					t.Errorf("%s: there are %v", what, d.Names())
				}
			}
		}
	}
}

// Behind a Pack the base and the manifest take room too.
func TestRestBehindPack(t *testing.T) {
	d := disk.New(1000)
	w := checkOpen(t, "an empty disk", d, 100, 1, "")
	mustDo(t, "Pack", w.Pack(xs(800)))
	for _, c := range []struct {
		rest int
		want api.Errno
	}{
		{176, api.ErrFull}, {greatest, api.ErrFull}, {greatest + 1, api.ErrFull}, {math.MaxInt, api.ErrFull}, {175, api.OK}, // 825 of 1000
		{165, api.ErrFull}, {164, api.OK}, // 836
		{-1, api.OK}, {math.MinInt, api.OK}, {0, api.OK}, // 869
	} {
		checkErr(t, fmt.Sprintf("with %d bytes, the rest %d", d.Used(), c.rest), w.Append("x", c.rest), c.want)
	}
	checkWal(t, "at the end", w, 2, 55)
	checkOpen(t, "at the end", d, 100, 2, xs(800), "x", "x", "x", "x", "x")
}

func TestRecordsAtTheEdges(t *testing.T) {
	d := disk.New(mostBytes)
	w := checkOpen(t, "an empty disk", d, 5000, 1, "")
	records := []string{"", "\x00", "\xff\xfe", "\u00e9\u20ac", xs(1999), xs(2000), wantFrame("a"), ""}
	appendAll(t, w, records...)
	before := told(d)
	for _, n := range []int{2001, 2010, 4096, 65536 + 3} {
		for _, rest := range farInts {
			checkErr(t, "too long", w.Append(xs(n), rest), api.ErrLong)
		}
	}
	if told(d) != before {
		t.Errorf("a refused Append left %s", short(told(d)))
	}
	mustDo(t, "Sync", w.Sync())
	d.Crash(0)
	checkOpen(t, "opened anew", d, 5000, 1, "", records...)
}

func TestTheLastNumbers(t *testing.T) {
	a := wantFrame("a")
	d := fill(t, map[string]string{"manifest": wantForm(99998), "snap.99998": "X", "log.99998": a})
	w := checkOpen(t, "99998", d, 11, 99998, "X", "a")
	checkErr(t, "Last is 99998", w.Pack("Y"), api.OK)
	checkFiles(t, "Last was 99998", d, map[string]string{"manifest": wantForm(99999), "snap.99999": "Y"})
	checkWal(t, "Last was 99998", w, 99999, 0)
	checkOver(t, "99999, and no log", d, w)
	appendAll(t, w, "b")
	checkOver(t, "99999", d, w)
	checkErr(t, "99999 is full", w.Append("c", 0), api.ErrOver)
	checkWal(t, "99999 is full", w, 99999, 11)
	checkOver(t, "99999, opened anew", d, checkOpen(t, "99999", d, 11, 99999, "Y", "b"))
	for first := 99990; first <= 99998; first++ {
		for last := first; last <= 99999; last++ {
			files := map[string]string{"manifest": wantForm(first), snap(first): "X"}
			var records []string
			for n := first; n <= last; n++ {
				files[segment(n)] = a
				records = append(records, "a")
			}
			d := fill(t, files)
			what := fmt.Sprintf("from %d up to %d", first, last)
			w := checkOpen(t, what, d, 11, first, "X", records...)
			if last == 99999 {
				checkOver(t, what, d, w)
				continue
			}
			checkErr(t, what, w.Pack("Y"), api.OK)
			checkFiles(t, what, d, map[string]string{"manifest": wantForm(last + 1), snap(last + 1): "Y"})
		}
	}
}

// checkOver packs where there is no number any more: nothing is done, with power or without.
func checkOver(t *testing.T, what string, d *disk.Disk, w *Wal) {
	t.Helper()
	before, number, bytes := told(d), w.Number(), w.Bytes()
	for _, fuse := range []int{0, -1} {
		d.Fuse(fuse)
		checkErr(t, what, w.Pack("no"), api.ErrOver)
		checkErr(t, what, w.Pack(xs(mostBytes+1)), api.ErrOver)
	}
	if told(d) != before {
		t.Errorf("%s: a refused Pack left\n%s, not\n%s", what, told(d), before)
	}
	checkWal(t, what, w, number, bytes)
}

// strangers are files of no word and number: they are neither read nor changed.
func strangers() map[string]string {
	return map[string]string{
		"snap": "no", "snap.": "no", "snap.0": "no", "snap.07": "no", "snaps.7": "no", "sna.7": "no", "snap.100000": "no", "snap..7": "no", "snap.7x": "no",
		"log": "no", "log.01": "no", "logs.1": "no", "lo.1": "no", "log.100000": "no", "log..1": "no", "log.1.1": "no",
		"manifest.ne": "no", "manifest.neu": "no", "manifest.1": "no", "manifesto": "no", "manifes": "no", "new": "no", "a": "no", "0": "no",
	}
}

func TestStrangersStay(t *testing.T) {
	for name, text := range strangers() {
		d := fill(t, map[string]string{name: text})
		d.Fuse(0)
		w := checkOpen(t, name+" alone", d, 100, 1, "")
		if d.Down() {
			t.Errorf("%s: Open did an operation", name)
		}
		d.Fuse(-1)
		appendAll(t, w, "a")
		checkErr(t, name, w.Sync(), api.OK)
		checkErr(t, name, w.Pack("X"), api.OK)
		appendAll(t, w, "b")
		want := map[string]string{name: text, "manifest": manifestOf2, "snap.2": "X", "log.2": wantFrame("b")}
		checkFiles(t, name+", packed", d, want)
		checkOpen(t, name+", opened anew", d, 100, 2, "X", "b")
		checkFiles(t, name+", opened anew", d, want)
	}
}

// What isn't wanted goes in Open: the draft, each other base, and the log's lower segments.
func TestLeftAheadOfOpen(t *testing.T) {
	a := wantFrame("a")
	right := map[string]string{"manifest": wantForm(9), "snap.9": "X", "log.9": a, "log.10": a}
	for _, kept := range []map[string]string{right, {"manifest": wantForm(9), "snap.9": "X"}, {"manifest": wantForm(9), "snap.9": "X", "other": "", "log.07": "no", "snap.010": "no"}} {
		for _, left := range [][]string{
			{"manifest.new", ""}, {"manifest.new", wantForm(10)}, {"manifest.new", "left"},
			{"snap.8", "old"}, {"snap.1", "old"}, {"snap.10", "new"}, {"snap.11", "new"}, {"snap.99999", "new"}, {"snap.1", "", "snap.8", "", "snap.10", "", "snap.99999", ""},
			{"log.8", a}, {"log.1", "no log"}, {"log.1", a, "log.3", turned(a, 3, 1), "log.8", a[:5]}, {"log.8", ""},
			{"manifest.new", wantForm(10), "snap.10", "new", "log.7", a, "log.8", a, "snap.7", "old"},
		} {
			for _, sure := range []bool{false, true} {
				d := fill(t, kept)
				for i := 0; i < len(left); i += 2 {
					mustDo(t, left[i], d.Append(left[i], left[i+1]))
					if sure {
						mustDo(t, left[i], d.Sync(left[i]))
					}
				}
				what := fmt.Sprintf("%d files, and %q", len(kept), left)
				var records []string
				if isThere(d, "log.9") {
					records = []string{"a", "a"}
				}
				checkOpen(t, what, d, 100, 9, "X", records...)
				checkFiles(t, what, d, kept)
				d.Fuse(0)
				checkOpen(t, what+", again", d, 100, 9, "X", records...)
				checkFiles(t, what+", again", d, kept)
			}
		}
	}
}

// Of the number 1 there is no file of the base: that number isn't another one, and no lower one.
func TestLeftAheadOfOpenWithoutAManifest(t *testing.T) {
	a := wantFrame("a")
	d := fill(t, map[string]string{"snap.1": "no base", "snap.2": "left", "snap.10": "left", "manifest.new": manifestOf2, "log.1": a, "log.2": a})
	w := checkOpen(t, "no manifest", d, 11, 1, "", "a", "a")
	checkFiles(t, "no manifest", d, map[string]string{"snap.1": "no base", "log.1": a, "log.2": a})
	checkErr(t, "Pack", w.Pack("X"), api.OK)
	checkFiles(t, "Pack", d, map[string]string{"manifest": wantForm(3), "snap.3": "X"})
}

// What came behind Open: in Pack the draft goes, and lower bases, and lower segments; greater bases stay.
func TestLeftAheadOfPack(t *testing.T) {
	for _, sure := range []bool{false, true} {
		d := fill(t, map[string]string{"manifest": wantForm(9), "snap.9": "X"})
		w := checkOpen(t, "9", d, 11, 9, "X")
		appendAll(t, w, "a", "b")
		for name, text := range map[string]string{"manifest.new": "left", "snap.1": "left", "snap.8": "left", "snap.10": "left", "snap.12": "left", "snap.99999": "left", "log.1": "left", "log.8": "left", "other": "left"} {
			mustDo(t, name, d.Append(name, text))
			if sure {
				mustDo(t, name, d.Sync(name))
			}
		}
		checkErr(t, "Pack", w.Pack("Y"), api.OK)
		want := map[string]string{"manifest": wantForm(11), "snap.11": "Y", "snap.12": "left", "snap.99999": "left", "other": "left"}
		checkFiles(t, "Pack", d, want)
		checkWal(t, "Pack", w, 11, 0)
		appendAll(t, w, "c")
		checkOpen(t, "opened anew", d, 11, 11, "Y", "c")
		checkFiles(t, "opened anew", d, map[string]string{"manifest": wantForm(11), "snap.11": "Y", "log.11": wantFrame("c"), "other": "left"})
	}
}

func TestNoDisk(t *testing.T) {
	for _, limit := range farInts {
		if w, base, records, fault := Open(nil, limit); w != nil || base != "" || len(records) != 0 || fault != api.ErrArg {
			t.Errorf("Open of no disk with %d: %v, %q, %q, %d", limit, w, base, records, fault)
		}
	}
}

func TestNilWal(t *testing.T) {
	var w *Wal
	for _, s := range []string{"", "a", xs(2000), xs(2001), xs(mostBytes + 1)} {
		for _, rest := range farInts {
			checkErr(t, "Append to no wal", w.Append(s, rest), api.ErrArg)
		}
		checkErr(t, "Pack of no wal", w.Pack(s), api.ErrArg)
	}
	checkErr(t, "Sync of no wal", w.Sync(), api.ErrArg)
	checkWal(t, "no wal", w, 0, 0)
}

// whole is a disk's files with a base and a log of three segments, and what a Pack may leave.
func whole() map[string]string {
	return map[string]string{
		"manifest": wantForm(300), "snap.300": "the base", "log.300": wantFrames("abc", ""), "log.301": wantFrame("d"), "log.302": wantFrames("e", "fg"),
		"manifest.new": wantForm(303), "snap.299": "elder", "snap.303": "later", "log.299": "lower",
	}
}

func TestAManifestThatIsNone(t *testing.T) {
	form := wantForm(300)
	for at := range len(form) {
		for bit := range 8 {
			checkRefused(t, "a turned manifest", fill(t, with(whole(), "manifest", turned(form, at, 1<<bit))), api.ErrSum)
		}
		checkRefused(t, "a cut manifest", fill(t, with(whole(), "manifest", form[:at])), api.ErrForm)
	}
	for _, c := range []struct {
		text string
		want api.Errno
	}{
		{form + "x", api.ErrForm}, {form + form, api.ErrForm}, {wantFrame(""), api.ErrForm}, {wantFrame("cg1"), api.ErrForm}, {wantFrame("cg1\x00"), api.ErrForm}, {wantFrame("cg1\x01"), api.ErrForm},
		{wantFrame("cg1" + wantDigits(100000)), api.ErrForm}, {wantFrame("cg1\x80\x05"), api.ErrForm}, {wantFrame("cg2\x05"), api.ErrForm}, {wantFrame("cg1\x05\x05"), api.ErrForm},
		{wantHead(2001) + xs(2005), api.ErrLong}, {wantHead(2001), api.ErrLong}, {"cg1\x05", api.ErrForm}, {xs(100), api.ErrSum},
	} {
		checkRefused(t, fmt.Sprintf("the manifest %x", short(c.text)), fill(t, with(whole(), "manifest", c.text)), c.want)
		checkRefused(t, fmt.Sprintf("the manifest %x alone", short(c.text)), fill(t, map[string]string{"manifest": c.text}), c.want)
	}
}

func TestAMissingBase(t *testing.T) {
	for _, n := range []int{2, 9, 300, 99998, 99999} {
		d := fill(t, map[string]string{"manifest": wantForm(n)})
		checkRefused(t, "a manifest alone", d, api.ErrNone)
		d = fill(t, map[string]string{"manifest": wantForm(n), "log.2": "", segment(n): wantFrame("a"), "manifest.new": "", snap(n - 1): "elder", "snap": "", "snap.0": "", "snap.02": ""})
		checkRefused(t, "another base", d, api.ErrNone)
		mustDo(t, "the base", d.Append(snap(n), ""))
		checkOpen(t, "the base", d, 100, n, "", "a")
	}
}

func TestALogThatIsNotRight(t *testing.T) {
	for _, c := range []struct {
		name string
		want api.Errno
	}{{"log.300", api.ErrNone}, {"log.301", api.ErrNone}} {
		d := fill(t, whole())
		mustDo(t, "Remove", d.Remove(c.name))
		checkRefused(t, "without "+c.name, d, c.want)
	}
	checkRefused(t, "one too far", fill(t, with(whole(), "log.304", "")), api.ErrNone)
	checkRefused(t, "the last one of all", fill(t, with(whole(), "log.99999", "")), api.ErrNone)
	for _, name := range []string{"log.300", "log.301", "log.302"} {
		text := whole()[name]
		for at := range len(text) {
			for bit := range 8 {
				checkRefused(t, "a turned segment", fill(t, with(whole(), name, turned(text, at, 1<<bit))), api.ErrSum)
			}
		}
		checkRefused(t, "a head that tells too much", fill(t, with(whole(), name, text+wantHead(2001))), api.ErrLong)
	}
	// Whole frames alone are no cut ones.
	for at := range 23 {
		if at != 0 && at != 13 {
			checkRefused(t, "a cut segment", fill(t, with(whole(), "log.300", whole()["log.300"][:at])), api.ErrForm)
		}
		if at != 0 && at < 11 {
			checkRefused(t, "a cut segment", fill(t, with(whole(), "log.301", whole()["log.301"][:at])), api.ErrForm)
		}
	}
	d := fill(t, with(whole(), "log.300", "", "log.301", whole()["log.300"][:13]))
	checkOpen(t, "cut to whole frames", d, 100, 300, "the base", "abc", "e", "fg")
}

// Of the last segment a rest is cut off, ahead of what is removed.
func TestARestOfTheLastSegment(t *testing.T) {
	text := whole()["log.302"]
	for at := range len(text) + 1 {
		d := fill(t, with(whole(), "log.302", text[:at]))
		records := []string{"abc", "", "d"}
		if at >= 11 {
			records = append(records, "e")
		}
		if at >= 23 {
			records = append(records, "fg")
		}
		what := fmt.Sprintf("%d bytes of the last segment", at)
		w := checkOpen(t, what, d, 100, 300, "the base", records...)
		checkFiles(t, what, d, map[string]string{
			"manifest": wantForm(300), "snap.300": "the base", "log.300": wantFrames("abc", ""), "log.301": wantFrame("d"), "log.302": wantFrames(records[3:]...),
		})
		appendAll(t, w, "more")
		checkOpen(t, what+", and more", d, 100, 300, "the base", append(records, "more")...)
	}
}

// Of two faults the one that stands first in the document is told, and nothing is done.
func TestTwoFaultsOfOpen(t *testing.T) {
	form, a := wantForm(300), wantFrame("a")
	sum, cut := turned(a, 6, 1), a[:10]
	for _, c := range []struct {
		what    string
		files   map[string]string
		without []string
		want    api.Errno
	}{
		{"a turned manifest, no base", with(whole(), "manifest", turned(form, 8, 1)), []string{"snap.300"}, api.ErrSum},
		{"a turned manifest, a gap", with(whole(), "manifest", turned(form, 8, 1)), []string{"log.301"}, api.ErrSum},
		{"a turned manifest, a cut segment", with(whole(), "manifest", turned(form, 8, 1), "log.301", cut), nil, api.ErrSum},
		{"a turned manifest, a rest", with(whole(), "manifest", turned(form, 8, 1), "log.302", cut), nil, api.ErrSum},
		{"a cut manifest, a turned segment", with(whole(), "manifest", form[:9], "log.301", sum), nil, api.ErrForm},
		{"a cut manifest, a gap and no base", with(whole(), "manifest", form[:9]), []string{"log.301", "snap.300"}, api.ErrForm},
		{"a manifest that tells too much, a turned segment", with(whole(), "manifest", wantHead(2001), "log.300", sum), nil, api.ErrLong},
		{"no base, a turned segment", with(whole(), "log.300", sum), []string{"snap.300"}, api.ErrNone},
		{"no base, a cut segment", with(whole(), "log.301", cut), []string{"snap.300"}, api.ErrNone},
		{"no base, a segment that tells too much", with(whole(), "log.301", wantHead(2001)), []string{"snap.300"}, api.ErrNone},
		{"no base, a rest", with(whole(), "log.302", cut), []string{"snap.300"}, api.ErrNone},
		{"no base, a gap", whole(), []string{"snap.300", "log.301"}, api.ErrNone},
		{"a gap, a turned segment", with(whole(), "log.300", sum), []string{"log.301"}, api.ErrNone},
		{"a cut segment, then a turned one", with(whole(), "log.300", cut, "log.301", sum), nil, api.ErrForm},
		{"a turned segment, then a cut one", with(whole(), "log.300", sum, "log.301", cut), nil, api.ErrSum},
		{"a turned segment, and a rest", with(whole(), "log.300", sum, "log.302", cut), nil, api.ErrSum},
	} {
		d := fill(t, c.files)
		for _, name := range c.without {
			mustDo(t, name, d.Remove(name))
		}
		checkRefused(t, c.what, d, c.want)
		// Power counts last of all, and isn't asked for.
		d.Fuse(0)
		checkRefused(t, c.what+", no power", d, c.want)
		if d.Down() {
			t.Errorf("%s: there was an operation", c.what)
		}
	}
}

func TestTwoFaultsOfAppend(t *testing.T) {
	d := fill(t, map[string]string{"manifest": wantForm(99999), "snap.99999": "", "log.99999": wantFrame("a")})
	w := checkOpen(t, "99999", d, 11, 99999, "", "a")
	others(t, d, 13)
	d.Room(0)
	d.Fuse(0)
	checkErr(t, "too long, no number, no files, no room and no power", w.Append(xs(2001), 0), api.ErrLong)
	checkErr(t, "no number, no files, no room and no power", w.Append("a", 0), api.ErrOver)
	checkErr(t, "no number, and no room for a base", w.Pack("X"), api.ErrOver)

	d = disk.New(mostBytes)
	w = checkOpen(t, "an empty disk", d, 11, 1, "")
	appendAll(t, w, "a")
	others(t, d, 13)
	d.Fuse(0)
	checkErr(t, "no files and no power", w.Append("a", 0), api.ErrFull)
	d.Remove("x0")
	d.Crash(11)
	d.Fuse(0)
	d.Room(0)
	checkErr(t, "no room and no power", w.Append("", 0), api.ErrFull)
	if d.Down() {
		t.Error("a refused Append did an operation")
	}
	checkErr(t, "Sync without power", w.Sync(), api.ErrDown)
}

// twins are a wal on a disk, and the model on another one.
type twins struct {
	d, twin *disk.Disk
	w       *Wal
	m       *model
}

// open opens both; where it is refused what was opened ahead of it stays.
func (p *twins) open(t *testing.T, what string, limit int) api.Errno {
	t.Helper()
	m, base, records, want := wantOpen(p.twin, limit)
	w, got, list, fault := Open(p.d, limit)
	if fault != want || got != base || !slices.Equal(list, records) || (w != nil) != (want == api.OK) {
		t.Errorf("%s: Open with %d: %v, %q, %d records, %d, not %q, %d records, %d", what, limit, w != nil, short(got), len(list), fault, short(base), len(records), want)
	}
	if want == api.OK && w != nil {
		p.w, p.m = w, m
	}
	p.check(t, what)
	return fault
}

// both does with each of the disks what others may do.
func (p *twins) both(do func(d *disk.Disk)) {
	do(p.d)
	do(p.twin)
}

func (p *twins) check(t *testing.T, what string) {
	t.Helper()
	checkSame(t, what, p.d, p.twin)
	if p.w != nil {
		checkWal(t, what, p.w, p.m.number, p.m.bytes())
	}
}

// call is one of a wal's, and what the document tells of it.
type call struct {
	what string
	do   func(w *Wal) api.Errno
	want func(m *model) api.Errno
}

func calls() []call {
	all := []call{{"Sync", (*Wal).Sync, (*model).sync}}
	for _, c := range []struct{ size, rest int }{{0, 0}, {1, -1}, {1, 40}, {1, mostBytes}, {1, math.MaxInt}, {2000, 0}, {2001, 0}} {
		s := xs(c.size)
		all = append(all, call{fmt.Sprintf("Append of %d bytes, rest %d", c.size, c.rest), func(w *Wal) api.Errno { return w.Append(s, c.rest) }, func(m *model) api.Errno { return m.append(s, c.rest) }})
	}
	for _, base := range []string{"", xs(15), xs(28), xs(mostBytes)} {
		all = append(all, call{fmt.Sprintf("Pack of %d bytes", len(base)), pack(base), func(m *model) api.Errno { return m.pack(base) }})
	}
	return all
}

// checkAnew lets both crash, and opens them anew.
func checkAnew(t *testing.T, what string, p *twins, last, limit int) {
	t.Helper()
	p.both(func(d *disk.Disk) { d.Crash(last) })
	checkSame(t, what+", crashed", p.d, p.twin)
	p.open(t, what+", opened anew", limit)
}

// checkOperations holds what is done against the operations that the document tells, with power that fails ahead of each of them, and with power that stays.
func checkOperations(t *testing.T, what string, made func() *twins, do func(p *twins, what string)) {
	t.Helper()
	for fuse := -1; ; fuse++ {
		what := fmt.Sprintf("%s, with a fuse of %d", what, fuse)
		spare := 0
		for _, last := range []int{5, 14} {
			p := made()
			p.both(func(d *disk.Disk) { d.Fuse(fuse) })
			do(p, what)
			p.check(t, what)
			spare = left(p.d)
			if want := left(p.twin); spare != want {
				t.Errorf("%s: %d operations are left, not %d", what, spare, want)
			}
			checkAnew(t, what, p, last, 22)
		}
		if spare >= 2 || t.Failed() {
			return
		}
	}
}

// stands are disks that are right and such that aren't, with bases and logs that are sure or not.
func stands(t *testing.T) map[string]func() *disk.Disk {
	t.Helper()
	a := wantFrame("a")
	made := func(room int, sure map[string]string, unsure ...string) func() *disk.Disk {
		return func() *disk.Disk {
			d := fill(t, sure)
			for i := 0; i < len(unsure); i += 2 {
				mustDo(t, "a file", d.Append(unsure[i], unsure[i+1]))
			}
			d.Room(room)
			return d
		}
	}
	base := map[string]string{"manifest": manifestOf2, "snap.2": "X"}
	nine := map[string]string{"manifest": wantForm(9), "snap.9": "X", "log.9": a + a, "log.10": a}
	crowd := func(files map[string]string, count int) map[string]string {
		all := with(files)
		for i := range count - len(files) {
			all[fmt.Sprintf("x%d", i)] = ""
		}
		return all
	}
	missing := with(nine)
	delete(missing, "snap.9")
	return map[string]func() *disk.Disk{
		"nothing":                    made(mostBytes, nil),
		"a log":                      made(mostBytes, nil, "log.1", a),
		"a log, sure in part":        made(mostBytes, map[string]string{"log.1": a}, "log.1", a),
		"a log of three":             made(mostBytes, nil, "log.1", a+a, "log.2", a, "log.3", a),
		"an empty segment":           made(mostBytes, map[string]string{"log.1": ""}),
		"a rest":                     made(mostBytes, map[string]string{"log.1": a + a[:7]}),
		"a base":                     made(mostBytes, base),
		"an empty base":              made(mostBytes, with(base, "snap.2", "")),
		"a base and a log":           made(mostBytes, base, "log.2", a),
		"a base and a log of two":    made(mostBytes, nine),
		"a base, a log and a rest":   made(mostBytes, with(nine, "log.10", a+a[:3])),
		"a rest that isn't sure":     made(mostBytes, nine, "log.10", a[:8]),
		"left by a Pack":             made(mostBytes, with(nine, "manifest.new", wantForm(11), "snap.11", "Y")),
		"left by a Pack, not sure":   made(mostBytes, nine, "snap.11", "Y", "manifest.new", wantForm(11)),
		"left behind a Pack":         made(mostBytes, with(nine, "snap.8", "W", "log.7", a, "log.8", a)),
		"left of all kinds":          made(mostBytes, with(nine, "log.10", a[:3], "manifest.new", "", "snap.1", "", "snap.10", "", "snap.11", "", "snap.8", "W", "log.2", a, "log.8", "no", "other", "no")),
		"left without a manifest":    made(mostBytes, map[string]string{"log.1": a[:2], "manifest.new": manifestOf2, "snap.1": "no", "snap.2": "Y", "snap.10": "", "snap": ""}),
		"another file, not sure":     made(mostBytes, base, "other", "not sure", "log.2", a, "other", "neither"),
		"99998":                      made(mostBytes, map[string]string{"manifest": wantForm(99998), "snap.99998": "X"}, "log.99998", a+a),
		"99999":                      made(mostBytes, map[string]string{"manifest": wantForm(99999), "snap.99999": "X"}),
		"99999, and a log":           made(mostBytes, map[string]string{"manifest": wantForm(99999), "snap.99999": "X"}, "log.99999", a+a),
		"no room":                    made(0, base, "log.2", a),
		"room for 20 bytes":          made(46, base, "log.2", a),
		"room for 29 bytes":          made(55, base, "log.2", a),
		"room for 42 bytes":          made(68, base, "log.2", a),
		"sixteen files":              made(mostBytes, crowd(base, mostFiles)),
		"fifteen files":              made(mostBytes, crowd(with(base, "log.2", a), mostFiles-1)),
		"fourteen files":             made(mostBytes, crowd(with(base, "log.2", a), mostFiles-2)),
		"thirteen files":             made(mostBytes, crowd(with(base, "log.2", a), mostFiles-3)),
		"sixteen files with a draft": made(mostBytes, crowd(with(base, "manifest.new", ""), mostFiles)),
		"a turned manifest":          made(mostBytes, with(nine, "manifest", turned(manifestOf2, 9, 1), "manifest.new", "")),
		"an empty manifest":          made(mostBytes, with(nine, "manifest", "", "manifest.new", "")),
		"a missing base":             made(mostBytes, with(missing, "log.10", a[:5], "manifest.new", "")),
		"a gap":                      made(mostBytes, with(nine, "log.12", a[:5], "manifest.new", "")),
		"a turned segment":           made(mostBytes, with(nine, "log.9", turned(a, 7, 2), "log.10", a[:5], "manifest.new", "")),
		"a cut segment":              made(mostBytes, with(nine, "log.9", a[:7], "log.10", a[:5], "manifest.new", "")),
	}
}

func TestOperationsOfOpen(t *testing.T) {
	for where, made := range stands(t) {
		for _, limit := range []int{0, 22, math.MaxInt} {
			checkOperations(t, where+", Open", func() *twins { return &twins{d: made(), twin: made()} }, func(p *twins, what string) {
				p.open(t, what, limit)
			})
		}
	}
}

// dirt is what others may leave on a disk behind an Open.
func dirt() map[string]func(d *disk.Disk) {
	return map[string]func(d *disk.Disk){
		"nothing": func(d *disk.Disk) {},
		"a draft": func(d *disk.Disk) { d.Append("manifest.new", "left") },
		"all kinds": func(d *disk.Disk) {
			for _, name := range []string{"manifest.new", "snap.1", "snap.7", "snap.8", "snap.10", "snap.2", "snap.99999", "log.1", "log.7"} {
				d.Append(name, "left")
			}
		},
		"bases of the next numbers": func(d *disk.Disk) {
			for _, n := range []int{2, 3, 4, 10, 11, 12, 99999} {
				d.Append(snap(n), "left")
			}
		},
	}
}

func TestOperationsOfTheOtherCalls(t *testing.T) {
	for where, made := range stands(t) {
		if _, _, _, fault := wantOpen(made(), 0); fault != api.OK {
			continue
		}
		for left, put := range dirt() {
			for _, limit := range []int{0, 33} {
				for _, c := range calls() {
					what := fmt.Sprintf("%s, left %s, limit %d, %s", where, left, limit, c.what)
					opened := func() *twins {
						p := &twins{d: made(), twin: made()}
						mustDo(t, what, p.open(t, what, limit))
						p.both(put)
						return p
					}
					checkOperations(t, what, opened, func(p *twins, what string) {
						checkErr(t, what, c.do(p.w), c.want(p.m))
					})
					if t.Failed() {
						t.FailNow()
					}
				}
			}
		}
	}
}

// checkLiterally holds a call against operations that are written out, apart from the model.
func checkLiterally(t *testing.T, what string, files map[string]string, do func(d *disk.Disk, w *Wal) api.Errno, dirt map[string]string, ops []op) {
	t.Helper()
	ready := func() (*disk.Disk, *Wal) {
		d := fill(t, files)
		var w *Wal
		// A call of Open itself is handed no wal.
		if dirt != nil {
			w, _, _, _ = Open(d, 22)
			for name, text := range dirt {
				mustDo(t, name, d.Append(name, text))
				mustDo(t, name, d.Sync(name))
			}
		}
		return d, w
	}
	for fuse := -1; fuse <= len(ops)+1; fuse++ {
		d, w := ready()
		twin, _ := ready()
		d.Fuse(fuse)
		twin.Fuse(fuse)
		do(d, w)
		play(twin, ops)
		what := fmt.Sprintf("%s, with a fuse of %d", what, fuse)
		checkSame(t, what, d, twin)
		if got, want := left(d), left(twin); got != want {
			t.Errorf("%s: %d operations are left, not %d", what, got, want)
		}
	}
}

func TestOperationsLiterally(t *testing.T) {
	a := wantFrame("a")
	files := map[string]string{"manifest": wantForm(9), "snap.9": "X", "log.9": a + a, "log.10": a}
	none := map[string]string{}
	doOpen := func(d *disk.Disk, w *Wal) api.Errno {
		_, _, _, fault := Open(d, 22)
		return fault
	}
	doPack := func(d *disk.Disk, w *Wal) api.Errno { return w.Pack("Y") }
	packed := []op{
		{kind: "sync", name: "log.10"}, {kind: "append", name: "snap.11", s: "Y"}, {kind: "sync", name: "snap.11"},
		{kind: "append", name: "manifest.new", s: wantForm(11)}, {kind: "sync", name: "manifest.new"}, {kind: "rename", name: "manifest.new", s: "manifest"},
		{kind: "remove", name: "snap.9"}, {kind: "remove", name: "log.9"}, {kind: "remove", name: "log.10"},
	}
	checkLiterally(t, "Pack", files, doPack, none, packed)
	left := map[string]string{"snap.8": "", "snap.10": "", "snap.12": "", "log.2": "", "log.8": "", "manifest.new": "left"}
	cleared := slices.Concat(packed[:3], []op{{kind: "remove", name: "manifest.new"}}, packed[3:6], []op{
		{kind: "remove", name: "snap.8"}, {kind: "remove", name: "snap.9"}, {kind: "remove", name: "snap.10"},
		{kind: "remove", name: "log.2"}, {kind: "remove", name: "log.8"}, {kind: "remove", name: "log.9"}, {kind: "remove", name: "log.10"},
	})
	checkLiterally(t, "Pack, and what was left", files, doPack, left, cleared)
	first := []op{
		{kind: "append", name: "snap.2", s: "Y"}, {kind: "sync", name: "snap.2"},
		{kind: "append", name: "manifest.new", s: manifestOf2}, {kind: "sync", name: "manifest.new"}, {kind: "rename", name: "manifest.new", s: "manifest"},
	}
	checkLiterally(t, "Pack of nothing", nil, doPack, none, first)
	checkLiterally(t, "Open of what is right", files, doOpen, nil, nil)
	checkLiterally(t, "Open", with(files, "log.10", a+a[:4], "manifest.new", "", "snap.10", "", "snap.8", "", "snap.1", "", "log.8", a, "log.2", a, "x", ""), doOpen, nil, []op{
		{kind: "cut", name: "log.10", n: 11}, {kind: "remove", name: "manifest.new"},
		{kind: "remove", name: "snap.1"}, {kind: "remove", name: "snap.8"}, {kind: "remove", name: "snap.10"},
		{kind: "remove", name: "log.2"}, {kind: "remove", name: "log.8"},
	})
	checkLiterally(t, "Append", files, func(d *disk.Disk, w *Wal) api.Errno { return w.Append("b", 0) }, none, []op{{kind: "append", name: "log.10", s: wantFrame("b")}})
	checkLiterally(t, "Append to the next one", files, func(d *disk.Disk, w *Wal) api.Errno { return w.Append("bc", 0) }, none, []op{{kind: "sync", name: "log.10"}, {kind: "append", name: "log.11", s: wantFrame("bc")}})
	checkLiterally(t, "Sync", files, func(d *disk.Disk, w *Wal) api.Errno { return w.Sync() }, none, []op{{kind: "sync", name: "log.10"}})
	checkLiterally(t, "Number and Bytes", files, func(d *disk.Disk, w *Wal) api.Errno {
		w.Number()
		w.Bytes()
		return api.OK
	}, none, nil)
}

// What a Pack leaves at each operation that isn't done any more.
func TestPowerFailsInPack(t *testing.T) {
	a, form := wantFrame("a"), wantForm(3)
	files := map[string]string{"manifest": manifestOf2, "snap.2": "X", "log.2": a}
	later := map[string]string{"manifest": form, "snap.3": "Y"}
	for fuse, c := range []struct {
		want  api.Errno
		files map[string]string
		waits int
	}{
		{api.ErrDown, files, 11},
		{api.ErrDown, files, 0},
		{api.ErrDown, with(files, "snap.3", "Y"), 1},
		{api.ErrDown, with(files, "snap.3", "Y"), 0},
		{api.ErrDown, with(files, "snap.3", "Y", "manifest.new", form), 14},
		{api.ErrDown, with(files, "snap.3", "Y", "manifest.new", form), 0},
		{api.OK, with(later, "snap.2", "X", "log.2", a), 0},
		{api.OK, with(later, "log.2", a), 0},
		{api.OK, later, 0},
	} {
		d := fill(t, map[string]string{"manifest": manifestOf2, "snap.2": "X"})
		w := checkOpen(t, "2", d, 100, 2, "X")
		appendAll(t, w, "a")
		d.Fuse(fuse)
		what := fmt.Sprintf("a fuse of %d", fuse)
		checkErr(t, what, w.Pack("Y"), c.want)
		checkFiles(t, what, d, c.files)
		if d.Waits() != c.waits {
			t.Errorf("%s: %d bytes aren't sure, not %d", what, d.Waits(), c.waits)
		}
		if c.want == api.OK {
			checkWal(t, what, w, 3, 0)
			d.Crash(0)
			checkOpen(t, what, d, 100, 3, "Y")
			checkFiles(t, what+", opened anew", d, later)
			continue
		}
		checkWal(t, what, w, 2, 11)
		for range 3 {
			checkErr(t, what+", without power", w.Pack("Z"), api.ErrDown)
			checkErr(t, what+", without power", w.Append("b", 0), api.ErrDown)
			checkErr(t, what+", without power", w.Sync(), api.ErrDown)
			checkFiles(t, what+", without power", d, c.files)
			checkWal(t, what+", without power", w, 2, 11)
		}
		d.Crash(mostBytes)
		checkOpen(t, what, d, 100, 2, "X", "a")
		checkFiles(t, what+", opened anew", d, files)
	}
}

func TestPowerFailsInOpen(t *testing.T) {
	a := wantFrame("a")
	right := map[string]string{"manifest": manifestOf2, "snap.2": "X", "log.2": a}
	left := [][]string{{"manifest.new", "left"}, {"snap.1", "left"}, {"snap.3", "left"}, {"log.1", "left"}}
	for fuse := range len(left) + 2 {
		d := fill(t, with(right, "log.2", a+a[:5]))
		for _, f := range left {
			mustDo(t, f[0], d.Append(f[0], f[1]))
		}
		want := with(right)
		if fuse == 0 {
			want["log.2"] = a + a[:5]
		}
		for _, f := range left[max(fuse-1, 0):] {
			want[f[0]] = f[1]
		}
		what := fmt.Sprintf("a fuse of %d", fuse)
		d.Fuse(fuse)
		w, base, records, fault := Open(d, 100)
		checkFiles(t, what, d, want)
		if fuse > len(left) {
			checkErr(t, what, fault, api.OK)
			continue
		}
		if w != nil || base != "" || len(records) != 0 || fault != api.ErrDown {
			t.Errorf("%s: %v, %q, %q, %d", what, w != nil, base, records, fault)
		}
		checkRefused(t, what+", without power", d, api.ErrDown)
		d.Crash(100)
		checkOpen(t, what+", crashed", d, 100, 2, "X", "a")
		checkFiles(t, what+", crashed", d, right)
	}
}

// The base wants room beside all else, and the draft beside the base.
func TestNoRoomInBytes(t *testing.T) {
	files := map[string]string{"manifest": manifestOf2, "snap.2": "X", "log.2": wantFrame("a"), "other": xs(50)}
	for _, size := range []int{0, 1, 13, 14, 15, 100, 2500} {
		for free := range size + 20 {
			if size > 100 && free < size-20 {
				continue
			}
			d := fill(t, files)
			w := checkOpen(t, "2", d, 100, 2, "X", "a")
			appendAll(t, w, "b")
			d.Room(d.Used() + free)
			what := fmt.Sprintf("a base of %d bytes, %d free", size, free)
			want := api.ErrFull
			if free >= size+14 {
				want = api.OK
			}
			checkErr(t, what, w.Pack(xs(size)), want)
			if want == api.OK {
				checkFiles(t, what, d, map[string]string{"manifest": wantForm(3), "snap.3": xs(size), "other": xs(50)})
				continue
			}
			kept := with(files, "log.2", wantFrames("a", "b"))
			checkFiles(t, what, d, kept)
			checkWal(t, what, w, 2, 22)
			if d.Waits() != 0 {
				t.Errorf("%s: %d bytes of the log aren't sure", what, d.Waits())
			}
			d.Room(mostBytes)
			appendAll(t, w, "c")
			checkErr(t, what+", and room again", w.Pack(xs(size)), api.OK)
			checkFiles(t, what+", and room again", d, map[string]string{"manifest": wantForm(3), "snap.3": xs(size), "other": xs(50)})
		}
	}
}

func TestNoRoomInFiles(t *testing.T) {
	for holes := range 5 {
		for _, draft := range []bool{false, true} {
			d := fill(t, map[string]string{"manifest": manifestOf2, "snap.2": "X", "log.2": wantFrame("a")})
			w := checkOpen(t, "2", d, 11, 2, "X", "a")
			if draft {
				mustDo(t, "the draft", d.Append("manifest.new", "left"))
			}
			others(t, d, d.Holes()-holes)
			before := d.Names()
			what := fmt.Sprintf("%d files left, with a draft: %v", holes, draft)
			want := api.ErrFull
			if holes >= 3 {
				want = api.OK
			}
			checkErr(t, what+", Append", w.Append("b", 0), want)
			if want == api.OK {
				mustDo(t, "Remove", d.Remove("x0"))
			}
			need := 2
			if draft {
				need = 1
			}
			want = api.ErrFull
			if holes >= need {
				want = api.OK
			}
			checkErr(t, what+", Pack", w.Pack("Y"), want)
			if want == api.OK {
				checkOpen(t, what, d, 11, w.Number(), "Y")
				continue
			}
			checkWal(t, what, w, 2, 11)
			if !slices.Equal(d.Names(), before) {
				t.Errorf("%s: there are %v, not %v", what, d.Names(), before)
			}
		}
	}
}

// A refused Pack leaves base and log as they were, and a later one is done.
func TestPackIsRefusedAndDoneLater(t *testing.T) {
	d := disk.New(100)
	w := checkOpen(t, "an empty disk", d, 22, 1, "")
	appendAll(t, w, "a", "b", "c")
	for _, size := range []int{68, 67, 60, 54} {
		checkErr(t, fmt.Sprintf("Pack of %d bytes", size), w.Pack(xs(size)), api.ErrFull)
		checkFiles(t, "refused", d, map[string]string{"log.1": wantFrames("a", "b"), "log.2": wantFrame("c")})
		checkWal(t, "refused", w, 1, 33)
	}
	appendAll(t, w, "d")
	checkErr(t, "Pack of 42 bytes", w.Pack(xs(42)), api.OK)
	checkFiles(t, "packed", d, map[string]string{"manifest": wantForm(3), "snap.3": xs(42)})
	checkOpen(t, "packed", d, 22, 3, xs(42))
}

// act is what is done with a wal: a record is appended, all is synced, or a base is packed.
type act struct {
	kind, s string
}

// past is what acts left: the base that was last packed with OK, the records that were appended since, and how many of them were synced.
type past struct {
	d       *disk.Disk
	number  int
	base    string
	records []string
	synced  int
}

// doAll does acts with a wal, also where they are refused.
func doAll(t *testing.T, p *past, w *Wal, acts []act) {
	t.Helper()
	for i, a := range acts {
		var fault api.Errno
		switch a.kind {
		case "append":
			if fault = w.Append(a.s, 0); fault == api.OK {
				p.records = append(p.records, a.s)
			}
		case "sync":
			if fault = w.Sync(); fault == api.OK {
				p.synced = len(p.records)
			}
		case "pack":
			if fault = w.Pack(a.s); fault == api.OK {
				p.number, p.base, p.records, p.synced = w.Number(), a.s, nil, 0
			}
		}
		if fault != api.OK && fault != api.ErrDown && fault != api.ErrFull {
			t.Fatalf("act %d, %s of %d bytes: %d", i, a.kind, len(a.s), fault)
		}
	}
}

// kept are the records whose frames are there, behind a crash.
func (p *past) kept() []string {
	size := 0
	for _, n := range wantAll(p.d, "log") {
		if n >= p.number {
			size += len(textOf(p.d, segment(n)))
		}
	}
	for i, s := range p.records {
		size -= len(s) + 10
		if size < 0 {
			return p.records[:i]
		}
	}
	return p.records
}

// checkPast lets so many bytes last, opens the wal with power that fails in it, and once more with power that stays.
func checkPast(t *testing.T, what string, p *past, limit, last, fuse int) *Wal {
	t.Helper()
	all := last >= p.d.Waits()
	p.d.Crash(last)
	kept := p.kept()
	if len(kept) < p.synced || all && len(kept) < len(p.records) {
		t.Errorf("%s: %d records are there of %d, and %d were synced", what, len(kept), len(p.records), p.synced)
	}
	p.d.Fuse(fuse)
	w, base, records, fault := Open(p.d, limit)
	switch {
	case fault == api.ErrDown && w == nil && base == "" && len(records) == 0:
	case fault == api.OK && w != nil && base == p.base && slices.Equal(records, kept):
	default:
		t.Errorf("%s: Open with a fuse of %d: %v, %q, %q, %d", what, fuse, w != nil, short(base), records, fault)
	}
	p.d.Crash(last)
	w = checkOpen(t, what, p.d, limit, p.number, p.base, kept...)
	for _, name := range p.d.Names() {
		parts := numberedName.FindStringSubmatch(name)
		if name == "manifest.new" || parts != nil && parts[1] == "snap" && name != snap(p.number) {
			t.Errorf("%s: there is %s", what, name)
		}
	}
	p.records, p.synced = slices.Clone(kept), len(kept)
	return w
}

// checkGoesOn goes on with a wal that was opened anew.
func checkGoesOn(t *testing.T, what string, p *past, w *Wal, limit int) {
	t.Helper()
	doAll(t, p, w, []act{{"append", "more"}, {"sync", ""}, {"append", "lost"}})
	p.d.Crash(0)
	checkOpen(t, what+", and more", p.d, limit, p.number, p.base, p.records[:p.synced]...)
	mustDo(t, what, w.Pack("at last"))
	p.d.Crash(0)
	checkOpen(t, what+", packed", p.d, limit, w.Number(), "at last")
}

func TestBehindACrash(t *testing.T) {
	lists := [][]act{
		{{"append", "abc"}, {"append", ""}, {"sync", ""}, {"append", "d"}, {"pack", "base"}, {"append", "ef"}, {"append", "g"}},
		{{"pack", "base"}, {"append", "abc"}, {"append", "de"}, {"pack", ""}, {"pack", "again"}, {"append", "f"}, {"sync", ""}, {"append", "g"}},
		{{"append", "a"}, {"append", "b"}, {"append", "c"}, {"sync", ""}, {"append", "d"}, {"append", "e"}, {"pack", "a base of some bytes"}, {"sync", ""}},
	}
	for i, acts := range lists {
		for _, limit := range []int{0, 22, 26, mostBytes} {
			for fuse := -1; ; fuse++ {
				begin := func() *past {
					p := &past{d: disk.New(mostBytes), number: 1}
					w := checkOpen(t, "an empty disk", p.d, limit, 1, "")
					p.d.Fuse(fuse)
					doAll(t, p, w, acts)
					return p
				}
				first := begin()
				for last := -1; last <= first.d.Waits()+1; last++ {
					for in := range 7 {
						what := fmt.Sprintf("acts %d, limit %d, fuse %d, %d bytes last, fuse %d in Open", i, limit, fuse, last, in)
						p := begin()
						checkGoesOn(t, what, p, checkPast(t, what, p, limit, last, in), limit)
						if t.Failed() {
							t.FailNow()
						}
					}
				}
				if fuse >= 0 && !first.d.Down() && left(first.d) > 0 {
					break
				}
			}
		}
	}
}

// Many crashes behind one another, at random, with little room now and again.
func TestBehindManyCrashes(t *testing.T) {
	pick := rand.New(rand.NewSource(13))
	packs := 0
	for run := range 600 {
		limit := []int{0, 20, 40, 100, 1000}[pick.Intn(5)]
		p := &past{d: disk.New(300 + pick.Intn(2000)), number: 1}
		w := checkOpen(t, "an empty disk", p.d, limit, 1, "")
		for round := range 12 {
			var acts []act
			for range pick.Intn(15) {
				kind := []string{"append", "append", "append", "append", "sync", "pack"}[pick.Intn(6)]
				b := make([]byte, pick.Intn(30))
				pick.Read(b)
				acts = append(acts, act{kind, string(b)})
			}
			p.d.Fuse(pick.Intn(40) - 1)
			before := p.number
			doAll(t, p, w, acts)
			if p.number != before {
				packs++
			}
			what := fmt.Sprintf("run %d, round %d", run, round)
			w = checkPast(t, what, p, limit, pick.Intn(p.d.Waits()+2), pick.Intn(8)-1)
			if t.Failed() {
				t.FailNow()
			}
		}
	}
	if packs == 0 {
		t.Error("no run packed anything")
	}
}

// Turned bytes of what is sure are told, in whichever file of the log or manifest they are.
func TestATurnedByteByTheDisk(t *testing.T) {
	d := disk.New(mostBytes)
	w := checkOpen(t, "an empty disk", d, 22, 1, "")
	mustDo(t, "Pack", w.Pack("X"))
	appendAll(t, w, "a", "b", "c")
	mustDo(t, "Sync", w.Sync())
	for file, name := range d.Names() {
		if name == "snap.2" {
			continue
		}
		for at := range d.Sure(name) {
			if !d.Rot(file, at, 0x11) {
				t.Fatalf("no byte %d of %s", at, name)
			}
			checkRefused(t, fmt.Sprintf("byte %d of %s", at, name), d, api.ErrSum)
			d.Rot(file, at, 0x11)
		}
	}
	checkOpen(t, "turned back", d, 22, 2, "X", "a", "b", "c")
}

func TestWalsOfTwoDisks(t *testing.T) {
	one, two := disk.New(mostBytes), disk.New(mostBytes)
	v := checkOpen(t, "one", one, 11, 1, "")
	w := checkOpen(t, "two", two, 100, 1, "")
	appendAll(t, v, "a", "b")
	appendAll(t, w, "c", "d", "e")
	mustDo(t, "Pack", v.Pack("X"))
	checkWal(t, "one", v, 3, 0)
	checkWal(t, "two", w, 1, 33)
	appendAll(t, v, "f")
	mustDo(t, "Pack", w.Pack("Y"))
	checkWal(t, "one", v, 3, 11)
	checkWal(t, "two", w, 2, 0)
	checkOpen(t, "one", one, 11, 3, "X", "f")
	checkOpen(t, "two", two, 11, 2, "Y")
}

func TestRecordsAreTheCallersOwn(t *testing.T) {
	d := fill(t, map[string]string{"log.1": wantFrames("a", "b"), "log.2": wantFrame("c")})
	w, _, records, _ := Open(d, 22)
	_, _, kept, _ := Open(d, 22)
	for i := range records {
		records[i] = "changed"
	}
	_ = append(records, "changed")
	appendAll(t, w, "d")
	mustDo(t, "Pack", w.Pack("X"))
	if !slices.Equal(kept, []string{"a", "b", "c"}) {
		t.Errorf("the records became %q", kept)
	}
}

func TestSameAnswerAgain(t *testing.T) {
	d := fill(t, map[string]string{"manifest": manifestOf2, "snap.2": "X", "log.2": wantFrames("a", ""), "log.3": wantFrame("b")})
	for range 3 {
		w := checkOpen(t, "again", d, 22, 2, "X", "a", "", "b")
		for range 3 {
			checkWal(t, "again", w, 2, 32)
			checkErr(t, "too long", w.Append(xs(2001), 0), api.ErrLong)
			checkErr(t, "no room", w.Append("", greatest), api.ErrFull)
			checkErr(t, "Sync", w.Sync(), api.OK)
			checkErr(t, "no room for a base", w.Pack(xs(mostBytes)), api.ErrFull)
		}
	}
}

// disturb does with both disks what others may do.
func (p *twins) disturb(pick *rand.Rand) {
	n, k := pick.Intn(60), []int{1, 2, 3, 4, 9, 10, 99998, 99999}[pick.Intn(8)]
	name := []string{snap(k), segment(k), "manifest", "manifest.new"}[pick.Intn(4)]
	other, s := fmt.Sprintf("x%d", pick.Intn(14)), wantFrame(xs(pick.Intn(3)))
	switch kind := pick.Intn(14); kind {
	case 0, 1, 2:
		p.both(func(d *disk.Disk) { d.Crash(n) })
	case 3, 4:
		p.both(func(d *disk.Disk) { d.Fuse(n % 12) })
	case 5:
		p.both(func(d *disk.Disk) { d.Append(other, xs(n)) })
	case 6, 7:
		p.both(func(d *disk.Disk) { d.Remove(other) })
	case 8:
		p.both(func(d *disk.Disk) { d.Remove(name) })
	case 9:
		p.both(func(d *disk.Disk) { d.Append(name, s[:len(s)-n/50]) })
	case 10:
		p.both(func(d *disk.Disk) { d.Cut(name, n) })
	case 11:
		p.both(func(d *disk.Disk) { d.Room(n * 30) })
	case 12:
		p.both(func(d *disk.Disk) { d.Rot(n%8, n/2, 1<<(n%8)) })
	case 13:
		// A disk that isn't right may be made right again.
		p.both(func(d *disk.Disk) {
			for _, name := range d.Names() {
				d.Remove(name)
			}
			d.Append("manifest", wantForm(k+1))
			d.Append(snap(k+1), xs(n))
		})
	}
}

// Two disks, one on which the calls are made, and one on which what the document tells is done.
func TestLongRunsLikeTheModel(t *testing.T) {
	pick := rand.New(rand.NewSource(40))
	limits := []int{-1, 0, 20, 30, 31, 100, 1000, math.MaxInt}
	opened, packed := 0, 0
	for run := range 500 {
		p := &twins{d: disk.New(1500), twin: disk.New(1500)}
		p.open(t, "an empty disk", limits[pick.Intn(len(limits))])
		for step := range 80 {
			what := fmt.Sprintf("run %d, step %d", run, step)
			s, rest := xs(pick.Intn(12)), 0
			switch pick.Intn(14) {
			case 0, 1:
				if p.open(t, what, limits[pick.Intn(len(limits))]) == api.OK {
					opened++
				}
			case 2:
				s, rest = xs([]int{0, 100, 500, 2000, 2001}[pick.Intn(5)]), farInts[pick.Intn(len(farInts))]
				fallthrough
			case 3, 4, 5, 6:
				want := p.m.append(s, rest)
				checkErr(t, fmt.Sprintf("%s: Append of %d bytes, rest %d", what, len(s), rest), p.w.Append(s, rest), want)
			case 7:
				want := p.m.sync()
				checkErr(t, what+": Sync", p.w.Sync(), want)
			case 8, 9, 10:
				base := xs(pick.Intn(100))
				want := p.m.pack(base)
				checkErr(t, fmt.Sprintf("%s: Pack of %d bytes", what, len(base)), p.w.Pack(base), want)
				if want == api.OK {
					packed++
				}
			default:
				p.disturb(pick)
			}
			p.check(t, what)
			if t.Failed() {
				t.FailNow()
			}
		}
	}
	if opened == 0 || packed == 0 {
		t.Errorf("%d were opened, and %d packed", opened, packed)
	}
}

func TestNoCallPanics(t *testing.T) {
	disks := func() []*disk.Disk {
		down := fill(t, with(whole(), "log.302", "\x00"))
		down.Fuse(0)
		down.Remove("log.300")
		full := fill(t, map[string]string{"log.1": xs(30000), "manifest.new": xs(30000)})
		crowded := disk.New(mostBytes)
		others(t, crowded, mostFiles)
		all := []*disk.Disk{nil, {}, disk.New(0), disk.New(math.MinInt), disk.New(math.MaxInt), down, full, crowded, fill(t, whole())}
		for _, n := range []int{2, 99998, 99999} {
			all = append(all, fill(t, map[string]string{"manifest": wantForm(n), snap(n): "X", segment(n): wantFrame("a"), "log.99999": ""}))
		}
		return all
	}
	for _, limit := range farInts {
		for _, d := range disks() {
			w, _, _, _ := Open(d, limit)
			for _, w := range []*Wal{w, {}, nil} {
				for _, s := range []string{"", "\xff\x00", xs(2000), xs(2001), xs(mostBytes + 1)} {
					for _, rest := range farInts {
						w.Append(s, rest)
					}
					w.Sync()
					w.Pack(s)
					w.Number()
					w.Bytes()
				}
			}
		}
	}
}
