package disk

import (
	"fmt"
	"math"
	"math/rand"
	"slices"
	"sort"
	"strings"
	"testing"

	"concierge/api"
)

// The limits as the document writes them out, so that the tests do not lean on the program's own.
const (
	mostName  = 12
	mostFiles = 16
	mostBytes = 60000
)

var farInts = []int{math.MinInt, math.MinInt + 1, -1 << 32, -256, -2, -1, 0, 1, 2, 3, 255, 256, mostBytes - 1, mostBytes, mostBytes + 1, 1 << 32, math.MaxInt - 1, math.MaxInt}

var wrongNames = []string{
	"", "abcdefghijklm", strings.Repeat("a", 300), "A", "aB", "Z", " ", "a b", "a ", " a", "\x00", "a\n", "\x7f",
	"-", "_", "/", "a/b", ":", "@", "[", "`", "{", "a-1", "a_1", "a,1", "*", "ä", "é.1", "\xff", "a\xc3", "\x80a", "\xed\xa0\x80", "٣", "Ａ", "ａ",
}

// cell is one byte of a file: the model is all bytes, in the order in which they were appended.
type cell struct {
	name string
	b    byte
	sure bool
}

// model is what a disk has, byte by byte, and by the document's words alone.
type model struct {
	names map[string]int
	cells []cell
	room  int
	left  int // operations up to the fuse; below 0: none is set
	down  bool
}

func newModel(room int) *model {
	return &model{names: map[string]int{}, room: broughtRoom(room), left: -1}
}

func broughtRoom(n int) int {
	switch {
	case n < 0:
		return 0
	case n > mostBytes:
		return mostBytes
	}
	return n
}

func wantName(s string) bool {
	return len(s) > 0 && len(s) <= mostName && strings.Trim(s, "abcdefghijklmnopqrstuvwxyz0123456789.") == ""
}

func (m *model) has(name string) bool {
	_, there := m.names[name]
	return there
}

func (m *model) keep(want func(cell) bool) {
	var kept []cell
	for _, c := range m.cells {
		if want(c) {
			kept = append(kept, c)
		}
	}
	m.cells = kept
}

func (m *model) each(change func(*cell)) {
	for i := range m.cells {
		change(&m.cells[i])
	}
}

func (m *model) powerless() bool {
	if m.left == 0 {
		m.down = true
	}
	m.left--
	return m.down
}

func (m *model) Append(name, s string) api.Errno {
	if m.powerless() {
		return api.ErrDown
	}
	if !wantName(name) {
		return api.ErrArg
	}
	if !m.has(name) && len(m.names) == mostFiles {
		return api.ErrFull
	}
	if len(m.cells)+len(s) > m.room {
		return api.ErrFull
	}
	m.names[name] = 1
	for _, b := range []byte(s) {
		m.cells = append(m.cells, cell{name, b, false})
	}
	return api.OK
}

func (m *model) Sync(name string) api.Errno {
	if m.powerless() {
		return api.ErrDown
	}
	if !m.has(name) {
		return api.ErrNone
	}
	m.each(func(c *cell) { c.sure = c.sure || c.name == name })
	return api.OK
}

func (m *model) Cut(name string, n int) api.Errno {
	if m.powerless() {
		return api.ErrDown
	}
	if !m.has(name) {
		return api.ErrNone
	}
	at := 0
	m.keep(func(c cell) bool {
		if c.name != name {
			return true
		}
		at++
		return at <= n
	})
	m.each(func(c *cell) { c.sure = c.sure || c.name == name })
	return api.OK
}

func (m *model) Rename(name, to string) api.Errno {
	if m.powerless() {
		return api.ErrDown
	}
	if !wantName(to) {
		return api.ErrArg
	}
	if !m.has(name) {
		return api.ErrNone
	}
	if len(m.read(name)) != m.sure(name) {
		return api.ErrBusy
	}
	if name != to {
		m.keep(func(c cell) bool { return c.name != to })
		m.each(func(c *cell) {
			if c.name == name {
				c.name = to
			}
		})
		delete(m.names, name)
		m.names[to] = 1
	}
	return api.OK
}

func (m *model) Remove(name string) api.Errno {
	if m.powerless() {
		return api.ErrDown
	}
	if !m.has(name) {
		return api.ErrNone
	}
	delete(m.names, name)
	m.keep(func(c cell) bool { return c.name != name })
	return api.OK
}

func (m *model) Crash(last int) {
	for i := range m.cells {
		if !m.cells[i].sure && last > 0 {
			m.cells[i].sure = true
			last--
		}
	}
	m.keep(func(c cell) bool { return c.sure })
	m.left, m.down = -1, false
}

func (m *model) Fuse(n int) {
	if !m.down {
		m.left = n
	}
	if n < 0 {
		m.left = -1
	}
}

func (m *model) Room(n int) {
	m.room = broughtRoom(n)
}

func (m *model) Rot(file, at, by int) bool {
	names := m.list()
	if file < 0 || file >= len(names) || at < 0 || at >= m.sure(names[file]) {
		return false
	}
	m.each(func(c *cell) {
		if c.name != names[file] {
			return
		}
		if at == 0 {
			c.b ^= byte(uint64(by) & 255)
		}
		at--
	})
	return true
}

func (m *model) list() []string {
	names := []string{}
	for name := range m.names {
		names = append(names, name)
	}
	sort.Strings(names)
	return names
}

func (m *model) read(name string) string {
	s := []byte{}
	for _, c := range m.cells {
		if c.name == name {
			s = append(s, c.b)
		}
	}
	return string(s)
}

func (m *model) sure(name string) int {
	n := 0
	for _, c := range m.cells {
		if c.name == name && c.sure {
			n++
		}
	}
	return n
}

func (m *model) waits() int {
	n := 0
	for _, c := range m.cells {
		if !c.sure {
			n++
		}
	}
	return n
}

// checkLike holds all that may be asked of a disk against the model.
func checkLike(t *testing.T, what string, d *Disk, m *model) {
	t.Helper()
	free := m.room - len(m.cells)
	if free < 0 {
		free = 0
	}
	got := []int{d.Used(), d.Waits(), d.Free(), d.Holes()}
	want := []int{len(m.cells), m.waits(), free, mostFiles - len(m.names)}
	if !slices.Equal(got, want) || d.Down() != m.down {
		t.Fatalf("%s: Used, Waits, Free, Holes %v, Down %v, not %v, %v", what, got, d.Down(), want, m.down)
	}
	if names := d.Names(); !slices.Equal(names, m.list()) {
		t.Fatalf("%s: Names %q, not %q", what, names, m.list())
	}
	for _, name := range append(m.list(), "gone", "", "A") {
		s, err := d.Read(name)
		wantErr := api.OK
		if !m.has(name) {
			wantErr = api.ErrNone
		}
		if s != m.read(name) || err != wantErr || d.Sure(name) != m.sure(name) {
			t.Fatalf("%s: Read(%q) %q, %d, Sure %d, not %q, %d, %d", what, name, s, err, d.Sure(name), m.read(name), wantErr, m.sure(name))
		}
	}
}

// checkFile holds one file against what is written out.
func checkFile(t *testing.T, what string, d *Disk, name, want string, sure int) {
	t.Helper()
	if s, err := d.Read(name); s != want || err != api.OK || d.Sure(name) != sure {
		t.Errorf("%s: %s is %q, %d, Sure %d, not %q, OK, %d", what, name, s, err, d.Sure(name), want, sure)
	}
}

func checkGone(t *testing.T, what string, d *Disk, name string) {
	t.Helper()
	if s, err := d.Read(name); s != "" || err != api.ErrNone || d.Sure(name) != 0 || slices.Contains(d.Names(), name) {
		t.Errorf("%s: %s is %q, %d, Sure %d", what, name, s, err, d.Sure(name))
	}
}

func checkErr(t *testing.T, what string, got, want api.Errno) {
	t.Helper()
	if got != want {
		t.Errorf("%s: %d, not %d", what, got, want)
	}
}

func mustDo(t *testing.T, err api.Errno) {
	t.Helper()
	if err != api.OK {
		t.Fatalf("%d, not OK", err)
	}
}

// made answers a disk with a sure file each of what is told.
func made(t *testing.T, room int, files map[string]string) *Disk {
	t.Helper()
	d := New(room)
	for name, s := range files {
		mustDo(t, d.Append(name, s))
		mustDo(t, d.Sync(name))
	}
	return d
}

func TestExampleOfTheDocument(t *testing.T) {
	d := New(10)
	checkErr(t, "Append", d.Append("f", "ab"), api.OK)
	checkErr(t, "Sync", d.Sync("f"), api.OK)
	checkErr(t, "Append", d.Append("f", "cd"), api.OK)
	checkFile(t, "ahead of the crash", d, "f", "abcd", 2)
	d.Crash(1)
	checkFile(t, "behind the crash", d, "f", "abc", 3)
}

func TestNewDisk(t *testing.T) {
	for n, want := range map[int]int{
		math.MinInt: 0, -1: 0, 0: 0, 1: 1, 30: 30, 59999: 59999, 60000: 60000, 60001: 60000, math.MaxInt: 60000,
	} {
		d := New(n)
		if d == nil || d.Free() != want || d.Holes() != 16 || len(d.Names()) != 0 || d.Used() != 0 || d.Waits() != 0 || d.Down() {
			t.Errorf("New(%d): Free %d, Holes %d", n, d.Free(), d.Holes())
		}
		mustDo(t, d.Append("a", strings.Repeat("x", want)))
		checkErr(t, "one byte more", d.Append("a", "x"), api.ErrFull)
		if d.Free() != 0 || d.Used() != want {
			t.Errorf("New(%d), full: Free %d, Used %d", n, d.Free(), d.Used())
		}
	}
}

func TestRoomFromHereOn(t *testing.T) {
	for n, want := range map[int]int{
		math.MinInt: 0, -1: 0, 0: 0, 3: 0, 4: 0, 5: 0, 6: 1, 9: 4, 59999: 59994, 60000: 59995, 60001: 59995, math.MaxInt: 59995,
	} {
		d := New(7)
		mustDo(t, d.Append("a", "abc"))
		mustDo(t, d.Sync("a"))
		mustDo(t, d.Append("a", "de"))
		d.Room(n)
		checkFile(t, "what is there", d, "a", "abcde", 3)
		if d.Free() != want || d.Used() != 5 || d.Waits() != 2 {
			t.Errorf("Room(%d): Free %d, not %d", n, d.Free(), want)
		}
		checkErr(t, "more than is free", d.Append("a", strings.Repeat("x", want+1)), api.ErrFull)
		if n >= 5 {
			checkErr(t, "what is free", d.Append("b", strings.Repeat("x", want)), api.OK)
		}
	}
}

// More than room with nothing more is still more than room.
func TestNothingMoreWhereThereIsMoreThanRoom(t *testing.T) {
	d := New(7)
	mustDo(t, d.Append("a", "abcde"))
	d.Room(5)
	checkErr(t, "as much as room", d.Append("a", ""), api.OK)
	checkErr(t, "as much as room, a new file", d.Append("b", ""), api.OK)
	d.Room(4)
	checkErr(t, "more than room", d.Append("a", ""), api.ErrFull)
	checkErr(t, "more than room, a new file", d.Append("c", ""), api.ErrFull)
	checkGone(t, "refused", d, "c")
	mustDo(t, d.Cut("a", 3))
	checkErr(t, "room again", d.Append("c", "x"), api.OK)
}

func TestRoomCountsAllFiles(t *testing.T) {
	d := New(6)
	mustDo(t, d.Append("a", "abc"))
	mustDo(t, d.Sync("a"))
	mustDo(t, d.Append("b", "de"))
	checkErr(t, "one too many", d.Append("c", "xy"), api.ErrFull)
	checkGone(t, "refused", d, "c")
	checkErr(t, "one too many", d.Append("b", "xy"), api.ErrFull)
	checkFile(t, "refused", d, "b", "de", 0)
	checkErr(t, "the last byte", d.Append("c", "f"), api.OK)
	checkErr(t, "full", d.Append("c", "g"), api.ErrFull)
	mustDo(t, d.Remove("a"))
	if d.Free() != 3 {
		t.Errorf("Free %d", d.Free())
	}
	checkErr(t, "where a was", d.Append("c", "ghi"), api.OK)
	mustDo(t, d.Sync("c"))
	d.Crash(0)
	if d.Free() != 2 || d.Used() != 4 {
		t.Errorf("behind a crash: Free %d, Used %d", d.Free(), d.Used())
	}
}

func TestAppendOfNothing(t *testing.T) {
	d := New(0)
	checkErr(t, "a new file", d.Append("a", ""), api.OK)
	checkFile(t, "made", d, "a", "", 0)
	checkErr(t, "the same once more", d.Append("a", ""), api.OK)
	if d.Waits() != 0 || d.Used() != 0 || d.Holes() != 15 {
		t.Errorf("Waits %d, Used %d, Holes %d", d.Waits(), d.Used(), d.Holes())
	}
	checkErr(t, "nothing waits", d.Rename("a", "b"), api.OK)
	d.Crash(0)
	checkFile(t, "behind a crash", d, "b", "", 0)

	d = made(t, 9, map[string]string{"a": "xy"})
	checkErr(t, "to a file with something", d.Append("a", ""), api.OK)
	checkFile(t, "to a file with something", d, "a", "xy", 2)
}

func TestAppendMakesBytesOfAnyKind(t *testing.T) {
	var all []byte
	for b := range 256 {
		all = append(all, byte(b))
	}
	d := New(600)
	mustDo(t, d.Append("a", string(all)))
	mustDo(t, d.Sync("a"))
	mustDo(t, d.Append("a", string(all)))
	checkFile(t, "all bytes", d, "a", string(all)+string(all), 256)
	d.Crash(200)
	checkFile(t, "behind a crash", d, "a", string(all)+string(all[:200]), 456)
}

func TestNamesThatMayBe(t *testing.T) {
	for b := range 256 {
		for _, name := range []string{string([]byte{byte(b)}), string([]byte{'a', byte(b)}), string([]byte{byte(b), 'a'}), string([]byte{'a', byte(b), '1'})} {
			want := api.ErrArg
			if b >= 'a' && b <= 'z' || b >= '0' && b <= '9' || b == '.' {
				want = api.OK
			}
			checkErr(t, fmt.Sprintf("Append to %q", name), New(9).Append(name, "x"), want)
			d := made(t, 9, map[string]string{"from": "x"})
			checkErr(t, fmt.Sprintf("Rename to %q", name), d.Rename("from", name), want)
		}
	}
	for n := range 20 {
		name := strings.Repeat("n", n)
		want := api.OK
		if n < 1 || n > 12 {
			want = api.ErrArg
		}
		checkErr(t, fmt.Sprintf("Append, %d bytes", n), New(9).Append(name, "x"), want)
		d := made(t, 9, map[string]string{"from": "x"})
		checkErr(t, fmt.Sprintf("Rename, %d bytes", n), d.Rename("from", name), want)
	}
	for _, name := range []string{".", "..", "...", "0", ".a", "a.", "log.99999", "manifest.new", "z", "9", "............"} {
		d := New(9)
		checkErr(t, name, d.Append(name, "x"), api.OK)
		checkFile(t, name, d, name, "x", 0)
	}
}

func TestNamesThatMayNotBe(t *testing.T) {
	for _, name := range wrongNames {
		d := made(t, 9, map[string]string{"a": "xy", "b": "z"})
		mustDo(t, d.Append("b", "w"))
		checkErr(t, fmt.Sprintf("Append to %q", name), d.Append(name, "x"), api.ErrArg)
		checkErr(t, fmt.Sprintf("Append to %q, too much", name), d.Append(name, "1234567890"), api.ErrArg)
		checkErr(t, fmt.Sprintf("Append of nothing to %q", name), d.Append(name, ""), api.ErrArg)
		checkErr(t, fmt.Sprintf("Rename to %q", name), d.Rename("a", name), api.ErrArg)
		checkErr(t, fmt.Sprintf("Rename of none to %q", name), d.Rename("q", name), api.ErrArg)
		checkErr(t, fmt.Sprintf("Rename of what waits to %q", name), d.Rename("b", name), api.ErrArg)
		checkErr(t, fmt.Sprintf("Rename of %q to itself", name), d.Rename(name, name), api.ErrArg)
		checkErr(t, fmt.Sprintf("Rename of %q", name), d.Rename(name, "c"), api.ErrNone)
		checkErr(t, fmt.Sprintf("Sync of %q", name), d.Sync(name), api.ErrNone)
		checkErr(t, fmt.Sprintf("Cut of %q", name), d.Cut(name, 0), api.ErrNone)
		checkErr(t, fmt.Sprintf("Remove of %q", name), d.Remove(name), api.ErrNone)
		checkGone(t, "a name that may not be", d, name)
		checkFile(t, "what is there", d, "a", "xy", 2)
		checkFile(t, "what is there", d, "b", "zw", 1)
		if !slices.Equal(d.Names(), []string{"a", "b"}) {
			t.Errorf("%q: Names %q", name, d.Names())
		}
	}
}

func TestFilesThatAreNotThere(t *testing.T) {
	for _, name := range []string{"q", "aa", ".", "0", "zzzzzzzzzzzz"} {
		d := made(t, 9, map[string]string{"a": "xy", "b": ""})
		checkErr(t, "Sync", d.Sync(name), api.ErrNone)
		checkErr(t, "Cut", d.Cut(name, 0), api.ErrNone)
		checkErr(t, "Remove", d.Remove(name), api.ErrNone)
		checkErr(t, "Rename", d.Rename(name, "c"), api.ErrNone)
		checkErr(t, "Rename to one that is there", d.Rename(name, "a"), api.ErrNone)
		checkErr(t, "Rename to itself", d.Rename(name, name), api.ErrNone)
		checkGone(t, "not there", d, name)
		checkFile(t, "what is there", d, "a", "xy", 2)
		if !slices.Equal(d.Names(), []string{"a", "b"}) {
			t.Errorf("%q: Names %q", name, d.Names())
		}
	}
}

func TestSixteenFiles(t *testing.T) {
	d := New(mostBytes)
	for i := range 16 {
		if d.Holes() != 16-i {
			t.Errorf("%d files: Holes %d", i, d.Holes())
		}
		checkErr(t, "a file more", d.Append(fmt.Sprint("f", i), "x"), api.OK)
	}
	checkErr(t, "the seventeenth", d.Append("more", "x"), api.ErrFull)
	checkErr(t, "the seventeenth, of nothing", d.Append("more", ""), api.ErrFull)
	checkErr(t, "the seventeenth, of a wrong name", d.Append("MORE", ""), api.ErrArg)
	checkErr(t, "one of them", d.Append("f7", "y"), api.OK)
	checkFile(t, "one of them", d, "f7", "xy", 0)
	if d.Holes() != 0 || len(d.Names()) != 16 {
		t.Errorf("Holes %d, Names %q", d.Holes(), d.Names())
	}
	mustDo(t, d.Sync("f7"))
	checkErr(t, "another name for one of them", d.Rename("f7", "new"), api.OK)
	checkErr(t, "still sixteen", d.Append("f7", ""), api.ErrFull)
	checkErr(t, "in place of one of them", d.Rename("new", "f3"), api.OK)
	if d.Holes() != 1 {
		t.Errorf("Holes %d", d.Holes())
	}
	checkErr(t, "one more again", d.Append("more", "x"), api.OK)
	checkErr(t, "and no other", d.Append("other", "x"), api.ErrFull)
	mustDo(t, d.Remove("f3"))
	checkErr(t, "behind a Remove", d.Append("other", "x"), api.OK)
	d.Crash(0)
	if d.Holes() != 0 {
		t.Errorf("behind a crash: Holes %d", d.Holes())
	}
}

func TestNamesRise(t *testing.T) {
	d := New(99)
	for _, name := range []string{"log.2", "b", "log.10", "a.1", "9", "a", ".", "z", "log", "aa"} {
		mustDo(t, d.Append(name, ""))
	}
	want := []string{".", "9", "a", "a.1", "aa", "b", "log", "log.10", "log.2", "z"}
	if got := d.Names(); !slices.Equal(got, want) {
		t.Errorf("%q, not %q", got, want)
	}
	mustDo(t, d.Rename("z", "0"))
	mustDo(t, d.Rename(".", "y"))
	mustDo(t, d.Remove("b"))
	want = []string{"0", "9", "a", "a.1", "aa", "log", "log.10", "log.2", "y"}
	if got := d.Names(); !slices.Equal(got, want) {
		t.Errorf("%q, not %q", got, want)
	}
}

// What is answered is the caller's own.
func TestNamesAreTheCallersOwn(t *testing.T) {
	d := made(t, 9, map[string]string{"a": "x", "b": "y"})
	names := d.Names()
	names[0], names[1] = "z", "z"
	if got := d.Names(); !slices.Equal(got, []string{"a", "b"}) {
		t.Errorf("%q", got)
	}
	old := d.Names()
	mustDo(t, d.Rename("a", "c"))
	if !slices.Equal(old, []string{"a", "b"}) {
		t.Errorf("%q", old)
	}
}

// A text that was read stays as it was, whatever is done with the file.
func TestWhatWasReadStays(t *testing.T) {
	d := made(t, 99, map[string]string{"a": "abcdef"})
	s, _ := d.Read("a")
	d.Rot(0, 0, 1)
	mustDo(t, d.Cut("a", 1))
	mustDo(t, d.Append("a", "XYZ"))
	d.Crash(2)
	mustDo(t, d.Append("a", "12"))
	if s != "abcdef" {
		t.Errorf("%q", s)
	}
	checkFile(t, "what there is", d, "a", "`XY12", 3)
}

func TestDisksAreApart(t *testing.T) {
	d, e := New(9), New(9)
	mustDo(t, d.Append("a", "x"))
	d.Fuse(0)
	checkErr(t, "the other one", e.Append("b", "y"), api.OK)
	checkErr(t, "the one", d.Sync("a"), api.ErrDown)
	checkErr(t, "the other one", e.Sync("b"), api.OK)
	checkGone(t, "the other one", e, "a")
	checkGone(t, "the one", d, "b")
	e.Room(1)
	if d.Free() != 8 || e.Free() != 0 || e.Down() {
		t.Errorf("Free %d, %d", d.Free(), e.Free())
	}
}

func TestSyncIsOfOneFile(t *testing.T) {
	d := New(99)
	mustDo(t, d.Append("a", "abc"))
	mustDo(t, d.Append("b", "12"))
	mustDo(t, d.Append("a", "d"))
	mustDo(t, d.Sync("a"))
	checkFile(t, "synced", d, "a", "abcd", 4)
	checkFile(t, "not synced", d, "b", "12", 0)
	if d.Waits() != 2 {
		t.Errorf("Waits %d", d.Waits())
	}
	checkErr(t, "Sync of what is sure", d.Sync("a"), api.OK)
	d.Crash(0)
	checkFile(t, "synced", d, "a", "abcd", 4)
	checkFile(t, "not synced", d, "b", "", 0)
	checkErr(t, "Sync of what is empty", d.Sync("b"), api.OK)
}

// What lasts goes by the order in which it was appended, to whatever files; each state is written out.
func TestCrashByTheOrderOfAppends(t *testing.T) {
	want := []struct{ a, b, c string }{
		{"S", "", "sure"},
		{"S1", "", "sure"}, {"S12", "", "sure"},
		{"S12", "3", "sure"},
		{"S12", "3", "sure4"}, {"S12", "3", "sure45"}, {"S12", "3", "sure456"},
		{"S127", "3", "sure456"},
		{"S127", "38", "sure456"}, {"S127", "389", "sure456"},
		{"S127", "389", "sure456"}, {"S127", "389", "sure456"},
	}
	for last, w := range want {
		d := made(t, 99, map[string]string{"a": "S", "c": "sure"})
		for _, p := range []struct{ name, s string }{{"a", "12"}, {"b", "3"}, {"c", "456"}, {"a", "7"}, {"d", ""}, {"b", "89"}} {
			mustDo(t, d.Append(p.name, p.s))
		}
		if d.Waits() != 9 || d.Used() != 14 {
			t.Errorf("Waits %d, Used %d", d.Waits(), d.Used())
		}
		d.Crash(last)
		what := fmt.Sprintf("Crash(%d)", last)
		checkFile(t, what, d, "a", w.a, len(w.a))
		checkFile(t, what, d, "b", w.b, len(w.b))
		checkFile(t, what, d, "c", w.c, len(w.c))
		checkFile(t, what, d, "d", "", 0)
		if used := len(w.a + w.b + w.c); d.Used() != used || d.Waits() != 0 || d.Free() != 99-used || d.Holes() != 12 || !slices.Equal(d.Names(), []string{"a", "b", "c", "d"}) {
			t.Errorf("%s: Used %d, Waits %d, Free %d, Names %q", what, d.Used(), d.Waits(), d.Free(), d.Names())
		}
	}
}

// Behind a crash nothing waits: a second one leaves all as it is, and counts only what came since.
func TestSecondCrash(t *testing.T) {
	for first := range 8 {
		d := made(t, 99, map[string]string{"a": "ab"})
		mustDo(t, d.Append("a", "cd"))
		mustDo(t, d.Append("b", "efg"))
		d.Crash(first)
		a, _ := d.Read("a")
		b, _ := d.Read("b")
		d.Crash(0)
		checkFile(t, "a second crash", d, "a", a, len(a))
		checkFile(t, "a second crash", d, "b", b, len(b))
		mustDo(t, d.Append("b", "xy"))
		mustDo(t, d.Append("a", "z"))
		d.Crash(1)
		checkFile(t, "a third crash", d, "a", a, len(a))
		checkFile(t, "a third crash", d, "b", b+"x", len(b)+1)
	}
}

func TestCrashBelowNoughtAndFarAbove(t *testing.T) {
	for _, last := range farInts {
		d := made(t, 99, map[string]string{"a": "ab"})
		mustDo(t, d.Append("b", "123"))
		mustDo(t, d.Append("a", "cd"))
		d.Crash(last)
		a, b := "ab", ""
		switch {
		case last >= 5:
			a, b = "abcd", "123"
		case last > 0:
			b = "123"[:last]
		}
		checkFile(t, fmt.Sprintf("Crash(%d)", last), d, "a", a, len(a))
		checkFile(t, fmt.Sprintf("Crash(%d)", last), d, "b", b, len(b))
	}
}

// What was synced, cut, removed or put in another's place isn't counted by a crash any more.
func TestCrashCountsOnlyWhatWaits(t *testing.T) {
	for what, change := range map[string]func(d *Disk) api.Errno{
		"Sync":   func(d *Disk) api.Errno { return d.Sync("a") },
		"Cut":    func(d *Disk) api.Errno { return d.Cut("a", 5) },
		"Remove": func(d *Disk) api.Errno { return d.Remove("a") },
		"Rename": func(d *Disk) api.Errno { return d.Rename("s", "a") },
	} {
		d := made(t, 99, map[string]string{"s": "sure"})
		mustDo(t, d.Append("a", "123"))
		mustDo(t, d.Append("b", "x"))
		mustDo(t, d.Append("a", "456"))
		mustDo(t, d.Append("b", "yz"))
		mustDo(t, change(d))
		if d.Waits() != 3 {
			t.Errorf("%s: Waits %d", what, d.Waits())
		}
		d.Crash(2)
		checkFile(t, what, d, "b", "xy", 2)
	}
}

func TestRemovedAndMadeAnewThenCrashed(t *testing.T) {
	d := made(t, 99, map[string]string{"a": "old"})
	mustDo(t, d.Append("a", "123"))
	mustDo(t, d.Append("b", "x"))
	mustDo(t, d.Remove("a"))
	checkGone(t, "removed", d, "a")
	mustDo(t, d.Append("a", "new"))
	checkFile(t, "made anew", d, "a", "new", 0)
	d.Crash(3)
	checkFile(t, "behind a crash", d, "b", "x", 1)
	checkFile(t, "behind a crash", d, "a", "ne", 2)
}

// A removal lasts: a crash does not bring the file back.
func TestRemoveAndRenameAndCutLast(t *testing.T) {
	d := made(t, 99, map[string]string{"a": "aa", "b": "bb", "c": "cccc"})
	mustDo(t, d.Remove("a"))
	mustDo(t, d.Rename("b", "d"))
	mustDo(t, d.Cut("c", 1))
	d.Crash(0)
	checkGone(t, "removed", d, "a")
	checkGone(t, "renamed", d, "b")
	checkFile(t, "renamed", d, "d", "bb", 2)
	checkFile(t, "cut", d, "c", "c", 1)
}

func TestCuts(t *testing.T) {
	for _, n := range append([]int{4, 5, 6, 7, 8, 9}, farInts...) {
		d := New(99)
		mustDo(t, d.Append("a", "abcd"))
		mustDo(t, d.Sync("a"))
		mustDo(t, d.Append("a", "efg"))
		mustDo(t, d.Append("b", "x"))
		stays := max(0, min(n, 7))
		what := fmt.Sprintf("Cut at %d", n)
		checkErr(t, what, d.Cut("a", n), api.OK)
		checkFile(t, what, d, "a", "abcdefg"[:stays], stays)
		checkFile(t, what, d, "b", "x", 0)
		if d.Used() != stays+1 || d.Waits() != 1 || d.Free() != 98-stays {
			t.Errorf("%s: Used %d, Waits %d, Free %d", what, d.Used(), d.Waits(), d.Free())
		}
		mustDo(t, d.Append("a", "XY"))
		checkFile(t, what+", Append", d, "a", "abcdefg"[:stays]+"XY", stays)
		d.Crash(2)
		checkFile(t, what+", Crash", d, "a", "abcdefg"[:stays]+"X", stays+1)
		checkFile(t, what+", Crash", d, "b", "x", 1)
	}
}

func TestCutOfAnEmptyFile(t *testing.T) {
	d := made(t, 9, map[string]string{"a": ""})
	for _, n := range farInts {
		checkErr(t, "Cut", d.Cut("a", n), api.OK)
		checkFile(t, "Cut", d, "a", "", 0)
	}
}

func TestRenameToANewName(t *testing.T) {
	d := made(t, 99, map[string]string{"m": "text", "o": "other"})
	for _, to := range []string{"a", "z", "n", "m", "abcdefghijkl"} {
		from := d.Names()[slices.IndexFunc(d.Names(), func(s string) bool { return s != "o" })]
		checkErr(t, from+" to "+to, d.Rename(from, to), api.OK)
		checkGone(t, "the elder name", d, from)
		checkFile(t, "the later name", d, to, "text", 4)
		checkFile(t, "the other file", d, "o", "other", 5)
		if d.Used() != 9 || d.Waits() != 0 || d.Holes() != 14 {
			t.Errorf("%s: Used %d, Waits %d, Holes %d", to, d.Used(), d.Waits(), d.Holes())
		}
	}
	mustDo(t, d.Append("abcdefghijkl", "!"))
	checkFile(t, "Append behind it", d, "abcdefghijkl", "text!", 4)
	mustDo(t, d.Append("m", "new"))
	checkFile(t, "the elder name anew", d, "m", "new", 0)
}

func TestRenameToANameThatIsThere(t *testing.T) {
	for _, c := range []struct{ from, to string }{{"a", "b"}, {"b", "a"}, {"a", "c"}, {"c", "a"}} {
		d := made(t, 99, map[string]string{c.from: "this", c.to: "that one", "bb": "x"})
		mustDo(t, d.Append(c.to, "waits"))
		mustDo(t, d.Append("bb", "y"))
		checkErr(t, c.from+" to "+c.to, d.Rename(c.from, c.to), api.OK)
		checkGone(t, "the elder name", d, c.from)
		checkFile(t, "the later name", d, c.to, "this", 4)
		checkFile(t, "the other file", d, "bb", "xy", 1)
		if d.Used() != 6 || d.Waits() != 1 || d.Holes() != 14 {
			t.Errorf("%s to %s: Used %d, Waits %d, Holes %d", c.from, c.to, d.Used(), d.Waits(), d.Holes())
		}
		d.Crash(1)
		checkFile(t, "behind a crash", d, c.to, "this", 4)
		checkFile(t, "behind a crash", d, "bb", "xy", 2)
	}
}

func TestRenameToItsOwnName(t *testing.T) {
	d := made(t, 99, map[string]string{"a": "this", "b": "that"})
	mustDo(t, d.Append("b", "waits"))
	checkErr(t, "all sure", d.Rename("a", "a"), api.OK)
	checkFile(t, "its own name", d, "a", "this", 4)
	checkErr(t, "not all sure", d.Rename("b", "b"), api.ErrBusy)
	checkFile(t, "its own name", d, "b", "thatwaits", 4)
	if d.Waits() != 5 || d.Holes() != 14 {
		t.Errorf("Waits %d, Holes %d", d.Waits(), d.Holes())
	}
}

func TestRenameOfWhatIsNotSure(t *testing.T) {
	d := made(t, 99, map[string]string{"a": "this", "b": "that"})
	mustDo(t, d.Append("a", "!"))
	for _, to := range []string{"c", "b", "a"} {
		checkErr(t, to, d.Rename("a", to), api.ErrBusy)
	}
	checkErr(t, "a wrong name goes ahead", d.Rename("a", "C"), api.ErrArg)
	checkFile(t, "refused", d, "a", "this!", 4)
	checkFile(t, "refused", d, "b", "that", 4)
	checkGone(t, "refused", d, "c")
	mustDo(t, d.Append("c", "all of it waits"))
	checkErr(t, "none of it is sure", d.Rename("c", "d"), api.ErrBusy)
	mustDo(t, d.Sync("a"))
	checkErr(t, "behind a Sync", d.Rename("a", "b"), api.OK)
	checkFile(t, "behind a Sync", d, "b", "this!", 5)
	d.Crash(3)
	checkErr(t, "behind a crash", d.Rename("c", "d"), api.OK)
	checkFile(t, "behind a crash", d, "d", "all", 3)
}

func TestRemoveAndAppendBehindIt(t *testing.T) {
	d := made(t, 9, map[string]string{"a": "12", "b": "34", "c": "56"})
	mustDo(t, d.Append("b", "789"))
	checkErr(t, "full", d.Append("b", "x"), api.ErrFull)
	checkErr(t, "Remove", d.Remove("b"), api.OK)
	checkGone(t, "Remove", d, "b")
	checkErr(t, "Remove once more", d.Remove("b"), api.ErrNone)
	if d.Used() != 4 || d.Free() != 5 || d.Waits() != 0 || d.Holes() != 14 || !slices.Equal(d.Names(), []string{"a", "c"}) {
		t.Errorf("Used %d, Free %d, Waits %d, Names %q", d.Used(), d.Free(), d.Waits(), d.Names())
	}
	checkErr(t, "Append", d.Append("b", "new"), api.OK)
	checkFile(t, "made anew", d, "b", "new", 0)
	checkFile(t, "the others", d, "a", "12", 2)
	checkFile(t, "the others", d, "c", "56", 2)
}

func TestRotOfEachSureByte(t *testing.T) {
	const a, b = "abcd", "0123456"
	for file, s := range []string{a, b} {
		for at := range len(s) {
			for _, by := range []int{0, 1, 3, 128, 255, 256, 257, 511, -1, -2, -256, math.MinInt, math.MinInt + 5, math.MaxInt, 1 << 40} {
				d := made(t, 99, map[string]string{"a": a, "b": b})
				what := fmt.Sprintf("Rot(%d, %d, %d)", file, at, by)
				if !d.Rot(file, at, by) {
					t.Errorf("%s: false", what)
				}
				want := []byte(s)
				want[at] ^= byte(((by % 256) + 256) % 256)
				texts := []string{a, b}
				texts[file] = string(want)
				checkFile(t, what, d, "a", texts[0], len(a))
				checkFile(t, what, d, "b", texts[1], len(b))
				if d.Waits() != 0 || d.Used() != len(a+b) {
					t.Errorf("%s: Waits %d, Used %d", what, d.Waits(), d.Used())
				}
				d.Crash(0)
				checkFile(t, what+", Crash", d, "a", texts[0], len(a))
				checkFile(t, what+", Crash", d, "b", texts[1], len(b))
				if !d.Rot(file, at, by) {
					t.Errorf("%s once more: false", what)
				}
				checkFile(t, what+", turned back", d, "a", a, len(a))
				checkFile(t, what+", turned back", d, "b", b, len(b))
			}
		}
	}
}

func TestRotOfWhatIsNotSure(t *testing.T) {
	d := made(t, 99, map[string]string{"a": "abc", "b": ""})
	mustDo(t, d.Append("a", "de"))
	mustDo(t, d.Append("b", "xy"))
	for _, c := range []struct {
		file, at int
		want     bool
	}{
		{0, 2, true}, {0, 3, false}, {0, 4, false}, {0, 5, false}, {0, -1, false}, {1, 0, false}, {1, -1, false},
		{2, 0, false}, {15, 0, false}, {16, 0, false}, {-1, 0, false}, {math.MinInt, 0, false}, {math.MaxInt, 0, false},
		{0, math.MinInt, false}, {0, math.MaxInt, false}, {math.MaxInt, math.MaxInt, false}, {-1, -1, false},
	} {
		if got := d.Rot(c.file, c.at, 1); got != c.want {
			t.Errorf("Rot(%d, %d): %v", c.file, c.at, got)
		}
	}
	checkFile(t, "one byte", d, "a", "abbde", 3)
	checkFile(t, "none", d, "b", "xy", 0)
	mustDo(t, d.Sync("a"))
	if !d.Rot(0, 4, 1) || d.Rot(0, 5, 1) {
		t.Error("behind a Sync")
	}
	checkFile(t, "behind a Sync", d, "a", "abbdd", 5)
	d.Crash(1)
	if !d.Rot(1, 0, 1) || d.Rot(1, 1, 1) {
		t.Error("behind a crash")
	}
	checkFile(t, "behind a crash", d, "b", "y", 1)
}

// The place of a file is that among the names as they are now.
func TestRotByThePlaceAmongNames(t *testing.T) {
	d := New(99)
	for _, name := range []string{"c", "a", "b"} {
		mustDo(t, d.Append(name, name))
		mustDo(t, d.Sync(name))
	}
	d.Rot(2, 0, 32)
	checkFile(t, "the last one", d, "c", "C", 1)
	mustDo(t, d.Rename("c", "0"))
	d.Rot(0, 0, 32)
	checkFile(t, "the first one", d, "0", "c", 1)
	mustDo(t, d.Remove("0"))
	d.Rot(0, 0, 32)
	checkFile(t, "the first one", d, "a", "A", 1)
	checkFile(t, "the other one", d, "b", "b", 1)
	if New(9).Rot(0, 0, 1) {
		t.Error("a disk without files")
	}
}

// operations are one of each kind, and some that are refused: all of them are counted.
func operations() map[string]func(d *Disk) api.Errno {
	return map[string]func(d *Disk) api.Errno{
		"Append":               func(d *Disk) api.Errno { return d.Append("a", "x") },
		"Append of nothing":    func(d *Disk) api.Errno { return d.Append("a", "") },
		"Append, wrong name":   func(d *Disk) api.Errno { return d.Append("A", "x") },
		"Append, too much":     func(d *Disk) api.Errno { return d.Append("a", strings.Repeat("x", 100)) },
		"Sync":                 func(d *Disk) api.Errno { return d.Sync("a") },
		"Sync of none":         func(d *Disk) api.Errno { return d.Sync("q") },
		"Cut":                  func(d *Disk) api.Errno { return d.Cut("a", 1) },
		"Cut of none":          func(d *Disk) api.Errno { return d.Cut("q", 1) },
		"Rename":               func(d *Disk) api.Errno { return d.Rename("s", "t") },
		"Rename to itself":     func(d *Disk) api.Errno { return d.Rename("s", "s") },
		"Rename, wrong name":   func(d *Disk) api.Errno { return d.Rename("s", "T") },
		"Rename of none":       func(d *Disk) api.Errno { return d.Rename("q", "t") },
		"Rename of what waits": func(d *Disk) api.Errno { return d.Rename("a", "t") },
		"Remove":               func(d *Disk) api.Errno { return d.Remove("a") },
		"Remove of none":       func(d *Disk) api.Errno { return d.Remove("q") },
	}
}

func withWaits(t *testing.T) *Disk {
	t.Helper()
	d := made(t, 20, map[string]string{"a": "ab", "s": "sure"})
	mustDo(t, d.Append("a", "cd"))
	return d
}

// state is all that a disk answers, as one text.
func state(d *Disk) string {
	s := fmt.Sprint(d.Names(), d.Used(), d.Waits(), d.Free(), d.Holes(), d.Down())
	for _, name := range d.Names() {
		text, err := d.Read(name)
		s += fmt.Sprintf(" %q %d %d", text, err, d.Sure(name))
	}
	return s
}

func TestFuseCountsEachOperation(t *testing.T) {
	for what, do := range operations() {
		want := do(withWaits(t))
		for _, n := range []int{0, 1, 2, 3, 7} {
			d := withWaits(t)
			d.Fuse(n)
			for i := range n {
				// The first one is what is looked at; the others are refused, and counted as well.
				if i == 0 {
					checkErr(t, what, do(d), want)
				} else {
					checkErr(t, "Sync of none", d.Sync("none"), api.ErrNone)
				}
				if d.Down() {
					t.Errorf("%s, Fuse(%d): Down behind %d", what, n, i+1)
				}
			}
			before := state(d)
			checkErr(t, what+", a refused one next", d.Sync("none"), api.ErrDown)
			if !d.Down() || state(d) != strings.Replace(before, "false", "true", 1) {
				t.Errorf("%s, Fuse(%d): %s, not %s", what, n, state(d), before)
			}
		}
	}
}

func TestWithoutPowerAllOperationsAreRefused(t *testing.T) {
	for what, do := range operations() {
		d := withWaits(t)
		d.Fuse(0)
		if d.Down() {
			t.Errorf("%s: Down ahead of all operations", what)
		}
		checkErr(t, what+", by which it comes out", do(d), api.ErrDown)
		if !d.Down() {
			t.Errorf("%s: not Down", what)
		}
		before := state(d)
		for other, again := range operations() {
			checkErr(t, other, again(d), api.ErrDown)
		}
		if !d.Down() || state(d) != before {
			t.Errorf("%s: %s, not %s", what, state(d), before)
		}
		checkFile(t, what, d, "a", "abcd", 2)
		checkFile(t, what, d, "s", "sure", 4)
	}
}

// What is no operation isn't counted, and is answered on without power.
func TestWhatIsNoOperation(t *testing.T) {
	ask := func(d *Disk) {
		d.Read("a")
		d.Names()
		d.Used()
		d.Sure("a")
		d.Waits()
		d.Room(20)
		d.Free()
		d.Holes()
		d.Down()
		d.Rot(0, 0, 0)
	}
	d := withWaits(t)
	d.Fuse(1)
	for range 5 {
		ask(d)
	}
	checkErr(t, "the one that is left", d.Sync("none"), api.ErrNone)
	ask(d)
	if d.Down() {
		t.Error("Down by no operation")
	}
	checkErr(t, "the next one", d.Sync("none"), api.ErrDown)

	if s, err := d.Read("a"); s != "abcd" || err != api.OK {
		t.Errorf("Read %q, %d", s, err)
	}
	if _, err := d.Read("q"); err != api.ErrNone {
		t.Errorf("Read of none: %d", err)
	}
	d.Room(12)
	if !slices.Equal(d.Names(), []string{"a", "s"}) || d.Used() != 8 || d.Sure("a") != 2 || d.Waits() != 2 || d.Free() != 4 || d.Holes() != 14 {
		t.Errorf("without power: %s", state(d))
	}
	if !d.Rot(0, 1, 1) || d.Rot(0, 2, 1) {
		t.Error("Rot without power")
	}
	checkFile(t, "Rot", d, "a", "accd", 2)
	if !d.Down() {
		t.Error("not Down any more")
	}
}

func TestFuseThatIsSetAnew(t *testing.T) {
	d := New(99)
	d.Fuse(1)
	d.Fuse(3)
	for range 3 {
		checkErr(t, "Append", d.Append("a", "x"), api.OK)
	}
	d.Fuse(2)
	for range 2 {
		checkErr(t, "Append", d.Append("a", "x"), api.OK)
	}
	d.Fuse(0)
	for _, n := range []int{-1, -2, math.MinInt} {
		d.Fuse(0)
		d.Fuse(n)
		for range 9 {
			checkErr(t, "no fuse", d.Append("a", "x"), api.OK)
		}
	}
	d.Fuse(math.MaxInt)
	for range 9 {
		checkErr(t, "a far fuse", d.Append("a", "x"), api.OK)
	}
	checkFile(t, "all of them", d, "a", strings.Repeat("x", 41), 0)
	if d.Down() {
		t.Error("Down")
	}
}

func TestFuseBehindThePowerHasFailed(t *testing.T) {
	for _, n := range farInts {
		d := withWaits(t)
		d.Fuse(0)
		checkErr(t, "Sync", d.Sync("a"), api.ErrDown)
		d.Fuse(n)
		for range 3 {
			checkErr(t, fmt.Sprintf("Fuse(%d)", n), d.Sync("a"), api.ErrDown)
		}
		d.Crash(0)
		for range 9 {
			checkErr(t, fmt.Sprintf("Fuse(%d), Crash", n), d.Sync("a"), api.OK)
		}
	}
}

func TestBehindACrashThePowerIsThere(t *testing.T) {
	for n := range 4 {
		for ops := range 6 {
			d := withWaits(t)
			d.Fuse(n)
			for range ops {
				d.Sync("none")
			}
			if d.Down() != (ops > n) {
				t.Errorf("Fuse(%d), %d operations: Down %v", n, ops, d.Down())
			}
			d.Crash(1)
			if d.Down() {
				t.Errorf("Fuse(%d), %d operations, Crash: Down", n, ops)
			}
			checkFile(t, "behind the crash", d, "a", "abc", 3)
			for range 9 {
				checkErr(t, "behind the crash", d.Append("a", ""), api.OK)
			}
			d.Fuse(1)
			checkErr(t, "a new fuse", d.Append("a", "x"), api.OK)
			checkErr(t, "a new fuse", d.Append("a", "y"), api.ErrDown)
			d.Crash(9)
			checkFile(t, "behind the next crash", d, "a", "abcx", 4)
		}
	}
}

// Room stays over a crash.
func TestRoomBehindACrash(t *testing.T) {
	d := New(5)
	mustDo(t, d.Append("a", "abcde"))
	d.Room(4)
	d.Crash(3)
	if d.Free() != 1 {
		t.Errorf("Free %d", d.Free())
	}
	checkErr(t, "too much", d.Append("a", "xy"), api.ErrFull)
	checkErr(t, "the last byte", d.Append("a", "x"), api.OK)
}

func TestNilDisk(t *testing.T) {
	var d *Disk
	for _, name := range append([]string{"a", "log.1"}, wrongNames...) {
		for _, n := range farInts {
			checkErr(t, "Cut", d.Cut(name, n), api.ErrArg)
		}
		for what, got := range map[string]api.Errno{
			"Append": d.Append(name, "x"), "Append of nothing": d.Append(name, ""), "Sync": d.Sync(name),
			"Rename": d.Rename(name, "b"), "Rename to it": d.Rename("b", name), "Remove": d.Remove(name),
		} {
			checkErr(t, what, got, api.ErrArg)
		}
		if s, err := d.Read(name); s != "" || err != api.ErrArg {
			t.Errorf("Read(%q): %q, %d", name, s, err)
		}
		if d.Sure(name) != 0 {
			t.Errorf("Sure(%q): %d", name, d.Sure(name))
		}
	}
	for _, n := range farInts {
		d.Room(n)
		d.Fuse(n)
		d.Crash(n)
		if d.Rot(n, n, n) || d.Rot(0, 0, n) {
			t.Error("Rot")
		}
	}
	if len(d.Names()) != 0 || d.Used() != 0 || d.Waits() != 0 || d.Free() != 0 || d.Holes() != 0 || d.Down() {
		t.Error("a nil disk has something")
	}
}

// A Disk that New did not make is as one without room.
func TestZeroDisk(t *testing.T) {
	var d Disk
	if d.Free() != 0 || d.Holes() != 16 || d.Down() {
		t.Error(state(&d))
	}
	d.Crash(5)
	checkErr(t, "Append", d.Append("a", "x"), api.ErrFull)
	checkErr(t, "Append of nothing", d.Append("a", ""), api.OK)
	d.Room(3)
	checkErr(t, "with room", d.Append("a", "xyz"), api.OK)
	checkErr(t, "Sync", d.Sync("a"), api.OK)
	checkFile(t, "with room", &d, "a", "xyz", 3)
}

// step does one thing to both, and holds what they answer against each other.
func step(t *testing.T, what string, d *Disk, m *model, kind int, name, to, s string, n, by int) string {
	t.Helper()
	var got, want any
	switch kind {
	case 0:
		got, want = d.Append(name, s), m.Append(name, s)
	case 1:
		got, want = d.Sync(name), m.Sync(name)
	case 2:
		got, want = d.Cut(name, n), m.Cut(name, n)
	case 3:
		got, want = d.Rename(name, to), m.Rename(name, to)
	case 4:
		got, want = d.Remove(name), m.Remove(name)
	case 5:
		d.Crash(n)
		m.Crash(n)
	case 6:
		got, want = d.Rot(n, by%7, by), m.Rot(n, by%7, by)
	case 7:
		d.Room(n)
		m.Room(n)
	case 8:
		d.Fuse(n)
		m.Fuse(n)
	}
	what += fmt.Sprintf(" %d(%s,%s,%q,%d,%d)", kind, name, to, s, n, by)
	if got != want {
		t.Fatalf("%s: %v, not %v", what, got, want)
	}
	checkLike(t, what, d, m)
	return what
}

// Every run of a few steps, out of some that touch each other.
func TestShortRunsLikeTheModel(t *testing.T) {
	type one struct {
		kind     int
		name, to string
		s        string
		n        int
	}
	steps := []one{
		{0, "a", "", "12", 0}, {0, "b", "", "345", 0}, {0, "a", "", "", 0}, {0, "c", "", "6", 0}, {0, "A", "", "7", 0},
		{1, "a", "", "", 0}, {1, "b", "", "", 0}, {2, "a", "", "", 1}, {2, "b", "", "", 9},
		{3, "a", "b", "", 0}, {3, "b", "a", "", 0}, {3, "a", "a", "", 0}, {4, "a", "", "", 0}, {4, "b", "", "", 0},
		{5, "", "", "", 0}, {5, "", "", "", 3}, {6, "", "", "", 0}, {7, "", "", "", 4}, {8, "", "", "", 1}, {8, "", "", "", -1},
	}
	const length = 4
	runs := 1
	for range length {
		runs *= len(steps)
	}
	for run := range runs {
		d, m, what := New(7), newModel(7), ""
		for range length {
			s := steps[run%len(steps)]
			run /= len(steps)
			what = step(t, what, d, m, s.kind, s.name, s.to, s.s, s.n, 3)
		}
	}
}

func TestLongRunsLikeTheModel(t *testing.T) {
	names := []string{"a", "b", "c", "log.1", "log.2", "manifest", "d", "e", "f", "g", "h", "i", "j", "k", "l", "m", "n", "o", "p", "A", "", "abcdefghijklm", "\xff"}
	kinds := []int{0, 0, 0, 0, 0, 0, 0, 1, 1, 1, 2, 3, 3, 4, 5, 6, 6, 7, 8}
	random := rand.New(rand.NewSource(7))
	for run := range 300 {
		room := random.Intn(120)
		d, m := New(room), newModel(room)
		few := 3 + random.Intn(len(names)-2)
		for i := range 150 {
			kind := kinds[random.Intn(len(kinds))]
			if kind == 7 && random.Intn(4) > 0 || kind == 8 && random.Intn(2) > 0 {
				kind = 0
			}
			n := random.Intn(14) - 2
			if kind == 7 {
				n = random.Intn(150) - 5
			}
			s := strings.Repeat(string(rune('a'+i%26)), random.Intn(8))
			step(t, fmt.Sprint("run ", run, ", step ", i), d, m, kind, names[random.Intn(few)], names[random.Intn(few)], s, n, random.Intn(1000)-200)
		}
	}
}

// What is sure stays over a crash; what isn't is a beginning of what was appended: of each file, and of all in their order.
func TestCrashLeavesABeginning(t *testing.T) {
	names := []string{"a", "b", "c"}
	random := rand.New(rand.NewSource(72))
	for range 2000 {
		d := New(500)
		var order []string
		for i := range random.Intn(12) {
			name := names[random.Intn(3)]
			s := strings.Repeat(string(rune('a'+i)), random.Intn(5))
			mustDo(t, d.Append(name, s))
			for range s {
				order = append(order, name)
			}
			if random.Intn(4) == 0 {
				mustDo(t, d.Sync(name))
				order = slices.DeleteFunc(order, func(s string) bool { return s == name })
			}
		}
		had, sure := map[string]string{}, map[string]int{}
		for _, name := range d.Names() {
			had[name], _ = d.Read(name)
			sure[name] = d.Sure(name)
		}
		there := d.Names()
		last := random.Intn(len(order) + 3)
		for _, name := range order[:min(last, len(order))] {
			sure[name]++
		}
		d.Crash(last)
		if !slices.Equal(d.Names(), there) {
			t.Fatalf("Names %q, not %q", d.Names(), there)
		}
		for _, name := range there {
			checkFile(t, fmt.Sprintf("Crash(%d)", last), d, name, had[name][:sure[name]], sure[name])
		}
	}
}

func TestFullDiskOfTheGreatestRoom(t *testing.T) {
	d := New(mostBytes)
	for i := range mostBytes {
		mustDo(t, d.Append(fmt.Sprint("f", i%16), string([]byte{byte(i / 16)})))
	}
	checkErr(t, "one byte more", d.Append("f3", "x"), api.ErrFull)
	if d.Used() != mostBytes || d.Waits() != mostBytes || d.Free() != 0 {
		t.Errorf("Used %d, Waits %d, Free %d", d.Used(), d.Waits(), d.Free())
	}
	d.Crash(mostBytes - 16*100 - 5)
	for i := range 16 {
		want := mostBytes/16 - 100
		if i >= 11 {
			want--
		}
		if got := d.Sure(fmt.Sprint("f", i)); got != want {
			t.Errorf("f%d: %d, not %d", i, got, want)
		}
	}
}

func TestNoCallPanics(t *testing.T) {
	names := append([]string{"a", "b", "log.1"}, wrongNames...)
	for _, d := range []*Disk{nil, {}, New(9), withWaits(t)} {
		for _, n := range farInts {
			for _, by := range farInts {
				d.Rot(n, by, by)
				d.Rot(0, n, by)
				d.Rot(n, 0, by)
			}
			for _, name := range names {
				d.Fuse(n)
				d.Append(name, "x")
				d.Cut(name, n)
				d.Sync(name)
				for _, to := range names {
					d.Rename(name, to)
				}
				d.Read(name)
				d.Sure(name)
				d.Append(name, "yz")
				d.Remove(name)
				d.Room(n)
				d.Crash(n)
			}
			d.Names()
			d.Used()
			d.Waits()
			d.Free()
			d.Holes()
			d.Down()
		}
	}
}
