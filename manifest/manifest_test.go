package manifest

import (
	"encoding/binary"
	"fmt"
	"hash/crc32"
	"math"
	"math/rand"
	"slices"
	"strings"
	"sync"
	"testing"

	"concierge/api"
	"concierge/disk"
)

// The limits as the document writes them out, so that the tests do not lean on the program's own.
const (
	lastNumber  = 99999
	mostContent = 2000
	mostFiles   = 16
	mostBytes   = 60000
)

var farInts = []int{
	math.MinInt, math.MinInt + 1, -1<<32 + 2, -1 << 32, -100000, -99999, -300, -128, -2, -1, 0, 1, 2, 3, 127, 128, 129, 16383, 16384, 65536, 65538,
	lastNumber - 1, lastNumber, lastNumber + 1, 131072, 1 << 21, 1 << 30, 1 << 32, 1<<32 + 2, 1<<32 + lastNumber, 1 << 62, 1<<62 + 1, math.MaxInt - 1, math.MaxInt,
}

// op is an operation of a disk.
type op struct {
	kind, name, s string
}

func (o op) do(d *disk.Disk) api.Errno {
	switch o.kind {
	case "append":
		return d.Append(o.name, o.s)
	case "sync":
		return d.Sync(o.name)
	case "rename":
		return d.Rename(o.name, o.s)
	case "remove":
		return d.Remove(o.name)
	}
	panic(o.kind)
}

// play does operations, up to the first one that is refused.
func play(d *disk.Disk, ops []op) api.Errno {
	for _, o := range ops {
		if fault := o.do(d); fault != api.OK {
			return fault
		}
	}
	return api.OK
}

func wantSum(s string) string {
	return string(binary.BigEndian.AppendUint32(nil, crc32.ChecksumIEEE([]byte(s))))
}

// wantHead is a head with the right sum, also of a number that may not be.
func wantHead(count int) string {
	told := string(binary.BigEndian.AppendUint16(nil, uint16(count)))
	return told + wantSum(told)
}

func wantFrame(content string) string {
	return wantHead(len(content)) + content + wantSum(content)
}

// wantDigits are the bytes of a number up to 2097151.
func wantDigits(n int) string {
	switch {
	case n < 128:
		return string([]byte{byte(n)})
	case n < 128*128:
		return string([]byte{byte(128 + n/128), byte(n % 128)})
	}
	return string([]byte{byte(128 + n/(128*128)), byte(128 + n/128%128), byte(n % 128)})
}

func wantForm(n int) string {
	if n < 2 || n > lastNumber {
		return ""
	}
	return wantFrame("cg1" + wantDigits(n))
}

// wantNumbers are the numbers by their manifests: what isn't among these is none.
var wantNumbers = sync.OnceValue(func() map[string]int {
	numbers := map[string]int{}
	for n := 2; n <= lastNumber; n++ {
		numbers[wantForm(n)] = n
	}
	return numbers
})

// wantFault is that of a text which is none of wantNumbers.
func wantFault(s string) api.Errno {
	if len(s) < 6 {
		return api.ErrForm
	}
	if wantSum(s[:2]) != s[2:6] {
		return api.ErrSum
	}
	count := int(s[0])*256 + int(s[1])
	if count > mostContent {
		return api.ErrLong
	}
	if len(s) >= count+10 && wantSum(s[6:6+count]) != s[6+count:10+count] {
		return api.ErrSum
	}
	return api.ErrForm
}

func wantText(s string) (int, api.Errno) {
	if n, ok := wantNumbers()[s]; ok {
		return n, api.OK
	}
	return 0, wantFault(s)
}

func isThere(d *disk.Disk, name string) bool {
	return slices.Contains(d.Names(), name)
}

func wantRead(d *disk.Disk) (int, api.Errno) {
	if d == nil {
		return 0, api.ErrArg
	}
	if !isThere(d, "manifest") {
		return 1, api.OK
	}
	text, _ := d.Read("manifest")
	return wantText(text)
}

// wantClean answers the operations, or the fault that is ahead of them.
func wantClean(d *disk.Disk) ([]op, api.Errno) {
	if d == nil {
		return nil, api.ErrArg
	}
	if !isThere(d, "manifest.new") {
		return nil, api.OK
	}
	return []op{{kind: "remove", name: "manifest.new"}}, api.OK
}

// wantWrite answers the operations, or the fault that is ahead of them.
func wantWrite(d *disk.Disk, n int) ([]op, api.Errno) {
	ops, fault := wantClean(d)
	if fault != api.OK || n < 2 || n > lastNumber {
		return nil, api.ErrArg
	}
	return append(ops,
		op{kind: "append", name: "manifest.new", s: wantForm(n)},
		op{kind: "sync", name: "manifest.new"},
		op{kind: "rename", name: "manifest.new", s: "manifest"}), api.OK
}

// told is all that a disk has, so that what is to stay may be held against what was.
func told(d *disk.Disk) string {
	var b strings.Builder
	for _, name := range d.Names() {
		text, err := d.Read(name)
		fmt.Fprintf(&b, "%s=%x/%d/%d ", name, text, d.Sure(name), err)
	}
	fmt.Fprint(&b, d.Used(), d.Waits(), d.Free(), d.Holes(), d.Down())
	return b.String()
}

// left lets the fuse of a disk burn down: how many operations more were done.
func left(d *disk.Disk) int {
	for n := range 50 {
		if d.Remove("nothing") == api.ErrDown {
			return n
		}
	}
	return -1
}

// short cuts a text that is told in a fault's line.
func short(s string) string {
	return s[:min(len(s), 400)]
}

func xs(n int) string {
	return strings.Repeat("x", n)
}

func turned(s string, at int, by byte) string {
	b := []byte(s)
	b[at] ^= by
	return string(b)
}

func checkErr(t *testing.T, what string, got, want api.Errno) {
	t.Helper()
	if got != want {
		t.Errorf("%s: %d, not %d", what, got, want)
	}
}

func checkRead(t *testing.T, what string, d *disk.Disk, want int, fault api.Errno) {
	t.Helper()
	if n, err := Read(d); n != want || err != fault {
		t.Errorf("%s: Read answers %d, %d, not %d, %d", what, n, err, want, fault)
	}
}

func checkSame(t *testing.T, what string, d, twin *disk.Disk) {
	t.Helper()
	if got, want := told(d), told(twin); got != want {
		t.Errorf("%s: the disk is\n%s, not\n%s", what, short(got), short(want))
	}
}

func checkFiles(t *testing.T, what string, d *disk.Disk, files map[string]string) {
	t.Helper()
	if len(d.Names()) != len(files) {
		t.Errorf("%s: there are %v, not %d files", what, d.Names(), len(files))
	}
	for name, want := range files {
		if got, err := d.Read(name); err != api.OK || got != want {
			t.Errorf("%s: %s has %d bytes %x, %d, not %d bytes %x", what, name, len(got), short(got), err, len(want), short(want))
		}
	}
}

func mustDo(t *testing.T, what string, err api.Errno) {
	t.Helper()
	if err != api.OK {
		t.Fatalf("%s: %d", what, err)
	}
}

// fill makes a disk with files of which all is sure.
func fill(t *testing.T, files map[string]string) *disk.Disk {
	t.Helper()
	d := disk.New(mostBytes)
	for name, s := range files {
		mustDo(t, name, d.Append(name, s))
		mustDo(t, name, d.Sync(name))
	}
	return d
}

// others makes so many files that are neither the manifest nor the draft.
func others(t *testing.T, d *disk.Disk, count int) {
	t.Helper()
	for i := range count {
		mustDo(t, "another file", d.Append(fmt.Sprintf("x%d", i), ""))
	}
}

func TestExampleOfTheDocument(t *testing.T) {
	want := "\x00\x05\x31\xb3\xe6\x70" + "\x63\x67\x31\x82\x2c" + "\xa0\x85\x2c\xb7"
	if got := Form(300); got != want {
		t.Errorf("Form(300) is %x, not %x", got, want)
	}
}

// forms are some manifests byte for byte, apart from the model.
var forms = []struct {
	n    int
	form string
}{
	{2, "\x00\x04\x46\xb4\xd6\xe6" + "cg1\x02" + "\x6d\x1c\x3c\xca"},
	{127, "\x00\x04\x46\xb4\xd6\xe6" + "cg1\x7f" + "\x43\xa8\x31\x4b"},
	{128, "\x00\x05\x31\xb3\xe6\x70" + "cg1\x81\x00" + "\xb9\x70\x13\x97"},
	{300, "\x00\x05\x31\xb3\xe6\x70" + "cg1\x82\x2c" + "\xa0\x85\x2c\xb7"},
	{16383, "\x00\x05\x31\xb3\xe6\x70" + "cg1\xff\x7f" + "\xc8\x76\x2b\x42"},
	{16384, "\x00\x06\xa8\xba\xb7\xca" + "cg1\x81\x80\x00" + "\x87\x53\x01\x32"},
	{65536, "\x00\x06\xa8\xba\xb7\xca" + "cg1\x84\x80\x00" + "\x81\x98\xc3\xd9"},
	{99999, "\x00\x06\xa8\xba\xb7\xca" + "cg1\x86\x8d\x1f" + "\xba\xba\x64\x0f"},
}

func TestFormByteForByte(t *testing.T) {
	for _, c := range forms {
		if got := Form(c.n); got != c.form {
			t.Errorf("Form(%d) is %x, not %x", c.n, got, c.form)
		}
		if got := wantForm(c.n); got != c.form {
			t.Errorf("the model's form of %d is %x, not %x", c.n, got, c.form)
		}
	}
}

func TestFormOfEachNumber(t *testing.T) {
	for n := -1000; n <= lastNumber+200000; n++ {
		if got := Form(n); got != wantForm(n) {
			t.Fatalf("Form(%d) is %x, not %x", n, got, wantForm(n))
		}
	}
	for _, n := range farInts {
		if got := Form(n); got != wantForm(n) {
			t.Errorf("Form(%d) is %x, not %x", n, got, wantForm(n))
		}
	}
}

func TestNumbersWithoutAForm(t *testing.T) {
	for _, n := range []int{math.MinInt, -1 << 32, -300, -2, -1, 0, 1, 100000, 100001, 1 << 30, 1<<32 + 2, 1<<62 + 1, math.MaxInt} {
		if got := Form(n); got != "" {
			t.Errorf("Form(%d) is %x", n, got)
		}
	}
}

func TestReadOfAnEmptyDisk(t *testing.T) {
	for _, room := range []int{0, 1, 100, mostBytes} {
		d := disk.New(room)
		checkRead(t, "an empty disk", d, 1, api.OK)
		d.Fuse(0)
		checkRead(t, "an empty disk with a fuse", d, 1, api.OK)
		if d.Down() || len(d.Names()) != 0 {
			t.Errorf("Read left %s", told(d))
		}
	}
	checkRead(t, "a zero disk", &disk.Disk{}, 1, api.OK)
}

// Files that have nearly the manifest's name are none.
func TestReadWithOtherFiles(t *testing.T) {
	form := wantForm(5)
	d := fill(t, map[string]string{"manifest.new": form, "manifest.1": form, "manifes": form, "manifesto": form, "log.1": form, "snap.1": form, "a": ""})
	checkRead(t, "other files alone", d, 1, api.OK)
	mustDo(t, "Append", d.Append("manifest", wantForm(6)))
	checkRead(t, "other files, and the manifest", d, 6, api.OK)
}

func TestWriteByteForByte(t *testing.T) {
	d := disk.New(1000)
	for _, c := range forms {
		what := fmt.Sprint("the number ", c.n)
		checkErr(t, what, Write(d, c.n), api.OK)
		checkFiles(t, what, d, map[string]string{"manifest": c.form})
		checkRead(t, what, d, c.n, api.OK)
		if d.Sure("manifest") != len(c.form) || d.Waits() != 0 {
			t.Errorf("%s: %d bytes are sure, and %d wait", what, d.Sure("manifest"), d.Waits())
		}
		d.Crash(0)
		checkFiles(t, what+", crashed", d, map[string]string{"manifest": c.form})
		checkRead(t, what+", crashed", d, c.n, api.OK)
	}
}

func TestEachNumberIsWrittenAndRead(t *testing.T) {
	d := disk.New(100)
	for n := 2; n <= lastNumber; n++ {
		if err := Write(d, n); err != api.OK {
			t.Fatalf("Write of %d: %d", n, err)
		}
		if got, err := Read(d); got != n || err != api.OK {
			t.Fatalf("behind Write of %d: %d, %d", n, got, err)
		}
	}
	checkFiles(t, "at the end", d, map[string]string{"manifest": wantForm(lastNumber)})
}

func TestWriteOverAnElderNumber(t *testing.T) {
	numbers := []int{2, 3, 2, 2, 99999, 128, 127, 300, 16384, 16383, 99998, 2}
	d := fill(t, map[string]string{"log.1": "a log", "snap.1": "a base"})
	for i, n := range numbers {
		what := fmt.Sprintf("number %d of these, %d", i, n)
		checkErr(t, what, Write(d, n), api.OK)
		checkRead(t, what, d, n, api.OK)
		checkFiles(t, what, d, map[string]string{"manifest": wantForm(n), "log.1": "a log", "snap.1": "a base"})
	}
}

// A number may also be below the elder one, and what is on other files isn't synced by a Write.
func TestWriteLeavesOtherFiles(t *testing.T) {
	d := disk.New(1000)
	mustDo(t, "Append", d.Append("log.1", "not sure"))
	checkErr(t, "Write", Write(d, 9), api.OK)
	checkErr(t, "Write", Write(d, 4), api.OK)
	if d.Sure("log.1") != 0 || d.Waits() != 8 {
		t.Errorf("%d bytes of the log are sure, and %d wait", d.Sure("log.1"), d.Waits())
	}
	d.Crash(3)
	checkFiles(t, "crashed", d, map[string]string{"log.1": "not", "manifest": wantForm(4)})
}

func TestWriteOfNumbersAtTheEdges(t *testing.T) {
	for _, c := range []struct {
		n    int
		want api.Errno
	}{
		{math.MinInt, api.ErrArg}, {-300, api.ErrArg}, {-2, api.ErrArg}, {-1, api.ErrArg}, {0, api.ErrArg}, {1, api.ErrArg},
		{2, api.OK}, {127, api.OK}, {128, api.OK}, {99999, api.OK},
		{100000, api.ErrArg}, {100001, api.ErrArg}, {1<<32 + 2, api.ErrArg}, {1 << 62, api.ErrArg}, {math.MaxInt, api.ErrArg},
	} {
		for _, draft := range []bool{false, true} {
			d := fill(t, map[string]string{"manifest": wantForm(50)})
			if draft {
				mustDo(t, "a draft", d.Append("manifest.new", "left"))
			}
			before := told(d)
			what := fmt.Sprintf("Write of %d, with a draft: %v", c.n, draft)
			checkErr(t, what, Write(d, c.n), c.want)
			if c.want == api.OK {
				checkFiles(t, what, d, map[string]string{"manifest": wantForm(c.n)})
				continue
			}
			if told(d) != before {
				t.Errorf("%s left\n%s, not\n%s", what, told(d), before)
			}
			checkRead(t, what, d, 50, api.OK)
		}
	}
}

func TestClean(t *testing.T) {
	elder := wantForm(7)
	for _, draft := range []string{"", "left", wantForm(8), wantForm(8)[:9], xs(5000)} {
		for sure := range 3 {
			for _, there := range []bool{false, true} {
				d := disk.New(mostBytes)
				want := map[string]string{"a": "", "manifest.1": draft}
				number := 1
				mustDo(t, "another file", d.Append("a", ""))
				mustDo(t, "another file", d.Append("manifest.1", draft))
				if there {
					mustDo(t, "the manifest", d.Append("manifest", elder))
					want["manifest"], number = elder, 7
				}
				mustDo(t, "the draft", d.Append("manifest.new", draft))
				// Not sure, all sure, and sure in part.
				if sure > 0 {
					mustDo(t, "Sync", d.Sync("manifest.new"))
				}
				if sure > 1 {
					mustDo(t, "Append", d.Append("manifest.new", "more"))
				}
				for range 3 {
					checkErr(t, "Clean", Clean(d), api.OK)
					checkFiles(t, "behind Clean", d, want)
					checkRead(t, "behind Clean", d, number, api.OK)
				}
			}
		}
	}
}

func TestCleanWithoutADraft(t *testing.T) {
	for _, files := range []map[string]string{nil, {"manifest": wantForm(7)}, {"manifest": "none"}, {"manifest.1": "a", "manifest.ne": "b", "manifest.neu": "c", "new": "d"}} {
		d := fill(t, files)
		d.Fuse(0)
		checkErr(t, "Clean without a draft", Clean(d), api.OK)
		checkFiles(t, "behind Clean", d, files)
		if d.Down() {
			t.Error("Clean did an operation where there is no draft")
		}
	}
}

func TestDraftAheadOfWrite(t *testing.T) {
	for _, draft := range []string{"", "left", wantForm(8), wantForm(9), wantForm(8)[:9], wantForm(8) + "x", xs(5000)} {
		for _, sure := range []bool{false, true} {
			d := disk.New(mostBytes)
			mustDo(t, "the draft", d.Append("manifest.new", draft))
			if sure {
				mustDo(t, "Sync", d.Sync("manifest.new"))
			}
			checkRead(t, "the draft alone", d, 1, api.OK)
			checkErr(t, "Write", Write(d, 8), api.OK)
			checkFiles(t, "behind Write", d, map[string]string{"manifest": wantForm(8)})
			mustDo(t, "another draft", d.Append("manifest.new", draft))
			checkRead(t, "another draft", d, 8, api.OK)
			checkErr(t, "Write", Write(d, 9), api.OK)
			checkFiles(t, "behind another Write", d, map[string]string{"manifest": wantForm(9)})
		}
	}
}

func TestNoDisk(t *testing.T) {
	checkRead(t, "no disk", nil, 0, api.ErrArg)
	checkErr(t, "Clean of no disk", Clean(nil), api.ErrArg)
	for _, n := range farInts {
		checkErr(t, fmt.Sprintf("Write of %d to no disk", n), Write(nil, n), api.ErrArg)
	}
}

// flaw is a text that is no manifest, and what the document says of it.
type flaw struct {
	what, text string
	want       api.Errno
}

func broken() []flaw {
	f := wantForm(300)
	return []flaw{
		{"nothing", "", api.ErrForm},
		{"five bytes", f[:5], api.ErrForm},
		{"five bytes, turned", "xxxxx", api.ErrForm},
		{"the head alone", f[:6], api.ErrForm},
		{"without its last byte", f[:14], api.ErrForm},
		{"the frame of nothing", wantFrame(""), api.ErrForm},
		{"another frame behind it", f + f, api.ErrForm},
		{"a frame of nothing behind it", f + wantFrame(""), api.ErrForm},
		{"a byte behind it", f + "\x00", api.ErrForm},
		{"many bytes behind it", f + xs(5000), api.ErrForm},
		{"a byte ahead of it", "\x00" + f, api.ErrSum},
		{"cg1 alone", wantFrame("cg1"), api.ErrForm},
		{"cg", wantFrame("cg"), api.ErrForm},
		{"c", wantFrame("c"), api.ErrForm},
		{"a number alone", wantFrame("\x05"), api.ErrForm},
		{"the number 0", wantFrame("cg1\x00"), api.ErrForm},
		{"the number 1", wantFrame("cg1\x01"), api.ErrForm},
		{"the number 100000", wantFrame("cg1" + wantDigits(100000)), api.ErrForm},
		{"the number 100001", wantFrame("cg1" + wantDigits(100001)), api.ErrForm},
		{"the number 131074, of 17 bits and 2", wantFrame("cg1" + wantDigits(131074)), api.ErrForm},
		{"the number 2^32 + 2", wantFrame("cg1\x90\x80\x80\x80\x02"), api.ErrForm},
		{"the number 2^62", wantFrame("cg1\xc0\x80\x80\x80\x80\x80\x80\x80\x00"), api.ErrForm},
		{"the number 2^63 + 2", wantFrame("cg1\x81\x80\x80\x80\x80\x80\x80\x80\x80\x02"), api.ErrForm},
		{"the number 2^64 + 2", wantFrame("cg1\x82\x80\x80\x80\x80\x80\x80\x80\x80\x02"), api.ErrForm},
		{"the number 2^70 + 2", wantFrame("cg1\x81\x80\x80\x80\x80\x80\x80\x80\x80\x80\x02"), api.ErrForm},
		{"5 and something behind it", wantFrame("cg1\x05x"), api.ErrForm},
		{"5 and 0 behind it", wantFrame("cg1\x05\x00"), api.ErrForm},
		{"5 and 5 behind it", wantFrame("cg1\x05\x05"), api.ErrForm},
		{"300 and something behind it", wantFrame("cg1\x82\x2cx"), api.ErrForm},
		{"5 in two bytes", wantFrame("cg1\x80\x05"), api.ErrForm},
		{"5 in three bytes", wantFrame("cg1\x80\x80\x05"), api.ErrForm},
		{"300 in three bytes", wantFrame("cg1\x80\x82\x2c"), api.ErrForm},
		{"99999 in four bytes", wantFrame("cg1\x80\x86\x8d\x1f"), api.ErrForm},
		{"300 without its last byte", wantFrame("cg1\x82"), api.ErrForm},
		{"99999 without its last byte", wantFrame("cg1\x86\x8d"), api.ErrForm},
		{"300 with its bytes the other way round", wantFrame("cg1\x2c\x82"), api.ErrForm},
		{"300 in two bytes of eight bits", wantFrame("cg1\x01\x2c"), api.ErrForm},
		{"300 in digits", wantFrame("cg1300"), api.ErrForm},
		{"a blank between", wantFrame("cg1 \x05"), api.ErrForm},
		{"cg2", wantFrame("cg2\x05"), api.ErrForm},
		{"cG1", wantFrame("cG1\x05"), api.ErrForm},
		{"CG1", wantFrame("CG1\x05"), api.ErrForm},
		{"cg and 5", wantFrame("cg\x05"), api.ErrForm},
		{"cg11", wantFrame("cg11\x05"), api.ErrForm},
		{"ccg1", wantFrame("ccg1\x05"), api.ErrForm},
		{"another word", wantFrame("abc\x05"), api.ErrForm},
		{"the word as a text", wantFrame("\x03cg1\x05"), api.ErrForm},
		{"a long content", wantFrame("cg1\x05" + xs(1996)), api.ErrForm},
		{"a frame in a frame", wantFrame(f), api.ErrForm},
		{"without a frame", "cg1\x05", api.ErrForm},
		{"without a frame, and long enough", "cg1\x82\x2c" + xs(10), api.ErrSum},
		{"a head that tells 2001", wantHead(2001) + xs(2005), api.ErrLong},
		{"a head that tells 2001, alone", wantHead(2001), api.ErrLong},
		{"a head that tells 65535, with a manifest behind it", wantHead(65535) + f, api.ErrLong},
		{"a head that tells 2000, alone", wantHead(2000), api.ErrForm},
		{"a head that tells 2000, and 2003 bytes", wantHead(2000) + xs(2003), api.ErrForm},
		{"a head that tells 2000, and 2004 bytes", wantHead(2000) + xs(2004), api.ErrSum},
		{"a head that tells one byte less", wantHead(4) + "cg1\x82\x2c" + f[11:], api.ErrSum},
		{"a head that tells one byte more", wantHead(6) + "cg1\x82\x2c" + f[11:], api.ErrForm},
	}
}

func TestWhatIsNoManifest(t *testing.T) {
	for _, c := range broken() {
		d := fill(t, map[string]string{"manifest": c.text})
		d.Fuse(0)
		before := told(d)
		checkRead(t, c.what, d, 0, c.want)
		if told(d) != before {
			t.Errorf("%s: Read left %s, not %s", c.what, short(told(d)), short(before))
		}
		if n, fault := wantText(c.text); n != 0 || fault != c.want {
			t.Errorf("%s: the model says %d, %d, not %d", c.what, n, fault, c.want)
		}
		d.Fuse(-1)
		checkErr(t, c.what+": Write over it", Write(d, 8), api.OK)
		checkFiles(t, c.what+": Write over it", d, map[string]string{"manifest": wantForm(8)})
	}
}

// Of two faults the one that stands first in the document is told.
func TestOrderOfErrors(t *testing.T) {
	f := wantForm(300)
	for _, c := range []flaw{
		{"a turned head and something behind it", turned(f, 1, 1) + "x", api.ErrSum},
		{"a turned head, and cut", turned(f, 3, 1)[:9], api.ErrSum},
		{"a turned head, and cut within it", turned(f, 3, 1)[:5], api.ErrForm},
		{"a turned head that tells too much", turned(wantHead(2001), 5, 1) + f, api.ErrSum},
		{"too much, and cut", wantHead(2001) + f[6:9], api.ErrLong},
		{"too much, and another word", wantHead(2001) + "cg2\x05", api.ErrLong},
		{"a turned content and something behind it", turned(f, 8, 1) + "x", api.ErrSum},
		{"a turned content, and cut", turned(f, 8, 1)[:14], api.ErrForm},
		{"a turned sum and another word", turned(wantFrame("cg2\x05"), 13, 1), api.ErrSum},
		{"a turned sum and no such number", turned(wantFrame("cg1\x01"), 13, 1), api.ErrSum},
		{"a turned sum, and something behind the number", turned(wantFrame("cg1\x05x"), 14, 128), api.ErrSum},
		{"another word and something behind the frame", wantFrame("cg2\x05") + "x", api.ErrForm},
		{"a turned frame behind a manifest", f + turned(f, 1, 1), api.ErrForm},
		{"a frame that tells too much behind a manifest", f + wantHead(2001), api.ErrForm},
		{"a turned frame behind another content", wantFrame("cg1") + turned(f, 8, 1), api.ErrForm},
	} {
		checkRead(t, c.what, fill(t, map[string]string{"manifest": c.text}), 0, c.want)
		if n, fault := wantText(c.text); n != 0 || fault != c.want {
			t.Errorf("%s: the model says %d, %d, not %d", c.what, n, fault, c.want)
		}
	}
}

// A wrong number is told ahead of what the disk would say, and without an operation.
func TestOrderOfErrorsOfWrite(t *testing.T) {
	d := disk.New(0)
	d.Fuse(0)
	checkErr(t, "no such number, no power and no room", Write(d, 1), api.ErrArg)
	if d.Down() {
		t.Error("a refused Write did an operation")
	}
	checkErr(t, "no power and no room", Write(d, 2), api.ErrDown)
	checkErr(t, "no such number, and it came out that there is no power", Write(d, 100000), api.ErrArg)
	d.Crash(0)
	checkErr(t, "no room", Write(d, 2), api.ErrFull)
}

func TestATurnedByte(t *testing.T) {
	for _, c := range forms {
		d := fill(t, map[string]string{"manifest": c.form})
		for at := range len(c.form) {
			for by := 1; by < 256; by++ {
				d.Rot(0, at, by)
				if n, err := Read(d); n != 0 || err != api.ErrSum {
					t.Errorf("the manifest of %d, with byte %d xor'ed with %d: %d, %d", c.n, at, by, n, err)
				}
				d.Rot(0, at, by)
			}
		}
		checkRead(t, "turned back", d, c.n, api.OK)
	}
}

func TestACutManifest(t *testing.T) {
	for _, c := range forms {
		for size := range len(c.form) {
			what := fmt.Sprintf("%d bytes of the manifest of %d", size, c.n)
			checkRead(t, what, fill(t, map[string]string{"manifest": c.form[:size]}), 0, api.ErrForm)
		}
		for b := range 256 {
			what := fmt.Sprintf("the byte %d behind the manifest of %d", b, c.n)
			checkRead(t, what, fill(t, map[string]string{"manifest": c.form + string([]byte{byte(b)})}), 0, api.ErrForm)
		}
	}
}

// A manifest that isn't sure is one all the same.
func TestAManifestThatIsNotSure(t *testing.T) {
	for _, c := range forms {
		d := disk.New(mostBytes)
		mustDo(t, "Append", d.Append("manifest", c.form))
		checkRead(t, "not sure", d, c.n, api.OK)
		d.Crash(9)
		checkRead(t, "sure in part, and crashed", d, 0, api.ErrForm)
	}
}

// checkText reads a text as a manifest.
func checkText(t *testing.T, d *disk.Disk, text string) {
	t.Helper()
	d.Remove("manifest")
	if err := d.Append("manifest", text); err != api.OK {
		t.Fatalf("Append of %x: %d", short(text), err)
	}
	want, fault := wantText(text)
	if n, err := Read(d); n != want || err != fault {
		t.Fatalf("%x: %d, %d, not %d, %d", short(text), n, err, want, fault)
	}
}

// Behind the word each one and each two bytes, and many of three and more.
func TestContentsLikeTheModel(t *testing.T) {
	d := disk.New(mostBytes)
	for a := range 256 {
		checkText(t, d, wantFrame("cg1"+string([]byte{byte(a)})))
		for b := range 256 {
			checkText(t, d, wantFrame("cg1"+string([]byte{byte(a), byte(b)})))
			for _, c := range []int{0, 1, 31, 32, 127, 128, 255} {
				checkText(t, d, wantFrame("cg1"+string([]byte{byte(a), byte(b), byte(c)})))
			}
		}
	}
	pick := rand.New(rand.NewSource(12))
	for range 50000 {
		b := make([]byte, 3+pick.Intn(8))
		pick.Read(b)
		// Few pieces that are no last ones, so that it is often a number.
		for i := range b {
			if i < len(b)-1 && pick.Intn(4) > 0 {
				b[i] |= 128
			}
		}
		checkText(t, d, wantFrame("cg1"+string(b)))
	}
}

func TestWordsLikeTheModel(t *testing.T) {
	d := disk.New(mostBytes)
	for at := range 3 {
		for by := range 256 {
			checkText(t, d, wantFrame(turned("cg1\x05", at, byte(by))))
		}
	}
	for at := range 5 {
		for size := range 5 - at + 1 {
			checkText(t, d, wantFrame("cg1\x82\x2c"[at:at+size]))
		}
	}
}

func TestTextsLikeTheModel(t *testing.T) {
	pick := rand.New(rand.NewSource(13))
	d := disk.New(mostBytes)
	for range 50000 {
		text := wantForm(2 + pick.Intn(lastNumber-1))
		for range pick.Intn(4) {
			at := pick.Intn(len(text) + 1)
			switch pick.Intn(4) {
			case 0:
				text = text[:at]
			case 1:
				text = text[:at] + string([]byte{byte(pick.Intn(256))}) + text[at:]
			case 2:
				text += wantForm(pick.Intn(200000))
			default:
				if at < len(text) {
					text = turned(text, at, 1<<pick.Intn(8))
				}
			}
		}
		checkText(t, d, text)
	}
}

// The draft wants room beside the elder manifest, but not beside an elder draft.
func TestRoomInBytes(t *testing.T) {
	for _, n := range []int{2, 127, 128, 16383, 16384, 99999} {
		size := len(wantForm(n))
		for _, c := range []struct {
			elder int
			draft string
			other int
		}{{1, "", 0}, {1, "left", 0}, {7, "", 0}, {7, "left", 0}, {99999, xs(100), 50}, {300, wantForm(8), 1}, {1, xs(1000), 3}} {
			for less := -2; less <= 20; less++ {
				files := map[string]string{"a": xs(c.other)}
				if c.elder > 1 {
					files["manifest"] = wantForm(c.elder)
				}
				d := fill(t, files)
				if c.draft != "" {
					mustDo(t, "the draft", d.Append("manifest.new", c.draft))
				}
				room := size + c.other + len(files["manifest"]) - less
				d.Room(room)
				what := fmt.Sprintf("%d over %d, with a draft of %d and another file of %d bytes, and room for %d", n, c.elder, len(c.draft), c.other, room)
				want := api.OK
				if less > 0 {
					want = api.ErrFull
				} else {
					files["manifest"] = wantForm(n)
				}
				checkErr(t, what, Write(d, n), want)
				// Also where there is no room the elder draft is gone.
				checkFiles(t, what, d, files)
				if want == api.ErrFull {
					checkRead(t, what, d, c.elder, api.OK)
				} else {
					checkRead(t, what, d, n, api.OK)
				}
			}
		}
	}
}

func TestRoomInFiles(t *testing.T) {
	for _, elder := range []bool{false, true} {
		for _, draft := range []bool{false, true} {
			d := disk.New(mostBytes)
			number := 1
			if elder {
				mustDo(t, "Write", Write(d, 7))
				number = 7
			}
			if draft {
				mustDo(t, "the draft", d.Append("manifest.new", "left"))
			}
			others(t, d, d.Holes())
			want := api.ErrFull
			if draft {
				want, number = api.OK, 8
			}
			what := fmt.Sprintf("16 files, among them the manifest: %v, the draft: %v", elder, draft)
			checkErr(t, what, Write(d, 8), want)
			checkRead(t, what, d, number, api.OK)
			if isThere(d, "manifest.new") {
				t.Errorf("%s: there is a draft", what)
			}
			mustDo(t, "Remove", d.Remove("x0"))
			checkErr(t, what+", and one less", Write(d, 9), api.OK)
			checkRead(t, what+", and one less", d, 9, api.OK)
		}
	}
	d := disk.New(mostBytes)
	others(t, d, mostFiles-1)
	checkErr(t, "15 other files", Write(d, 8), api.OK)
	checkErr(t, "15 other files and the manifest", Write(d, 9), api.ErrFull)
	checkRead(t, "15 other files and the manifest", d, 8, api.OK)
}

// checkOperations holds what a call does against the operations that the document tells, with power that fails ahead of each of them, and with power that stays.
func checkOperations(t *testing.T, what string, made func() *disk.Disk, ops []op, want api.Errno, call func(d *disk.Disk) api.Errno) {
	t.Helper()
	for fuse := -1; fuse <= len(ops)+2; fuse++ {
		d, twin := made(), made()
		d.Fuse(fuse)
		twin.Fuse(fuse)
		what := fmt.Sprintf("%s, with a fuse of %d", what, fuse)
		fault := want
		if refused := play(twin, ops); refused != api.OK {
			fault = refused
		}
		checkErr(t, what, call(d), fault)
		checkSame(t, what, d, twin)
		if got, want := left(d), left(twin); got != want {
			t.Errorf("%s: %d operations are left, not %d", what, got, want)
		}
		for _, last := range []int{12, 5} {
			d.Crash(last)
			twin.Crash(last)
			checkSame(t, what+", crashed", d, twin)
		}
	}
}

// stands are disks with and without a manifest and a draft, sure and not.
func stands(t *testing.T) map[string]func() *disk.Disk {
	t.Helper()
	elder, later := wantForm(7), wantForm(8)
	made := func(room int, sure map[string]string, unsure ...string) func() *disk.Disk {
		return func() *disk.Disk {
			d := fill(t, sure)
			for i := 0; i < len(unsure); i += 2 {
				mustDo(t, "a file", d.Append(unsure[i], unsure[i+1]))
			}
			d.Room(room)
			return d
		}
	}
	manifest := map[string]string{"manifest": elder}
	full := map[string]string{"manifest": elder, "manifest.new": ""}
	for i := range mostFiles - len(full) {
		full[fmt.Sprintf("x%d", i)] = ""
	}
	return map[string]func() *disk.Disk{
		"nothing":                          made(mostBytes, nil),
		"a log that isn't sure":            made(mostBytes, nil, "log.1", "not sure"),
		"a draft":                          made(mostBytes, map[string]string{"manifest.new": later}),
		"a draft that isn't sure":          made(mostBytes, nil, "manifest.new", later),
		"a manifest":                       made(mostBytes, manifest),
		"a manifest and a log":             made(mostBytes, manifest, "log.1", "not sure"),
		"a manifest and an empty draft":    made(mostBytes, manifest, "manifest.new", ""),
		"a manifest and a draft":           made(mostBytes, map[string]string{"manifest": elder, "manifest.new": later}),
		"a manifest, a log and a draft":    made(mostBytes, manifest, "log.1", "not sure", "manifest.new", later, "log.1", "neither"),
		"a draft that is sure in part":     made(mostBytes, map[string]string{"manifest": elder, "manifest.new": later[:3]}, "manifest.new", later[3:]),
		"the last number":                  made(mostBytes, map[string]string{"manifest": wantForm(lastNumber)}),
		"no room":                          made(0, manifest),
		"no room, and a draft":             made(28, manifest, "manifest.new", "left"),
		"room for five bytes of the draft": made(19, manifest),
		"room enough, but for one byte":    made(27, manifest),
		"sixteen files":                    made(mostBytes, full),
		"a manifest that is none":          made(mostBytes, map[string]string{"manifest": turned(elder, 8, 1)}),
		"an empty manifest, and a draft":   made(mostBytes, map[string]string{"manifest": ""}, "manifest.new", later),
	}
}

func TestOperations(t *testing.T) {
	for where, made := range stands(t) {
		ops, fault := wantClean(made())
		checkOperations(t, where+", Clean", made, ops, fault, Clean)
		checkOperations(t, where+", Read", made, nil, api.OK, func(d *disk.Disk) api.Errno {
			want, fault := wantRead(d)
			checkRead(t, where, d, want, fault)
			return api.OK
		})
		checkOperations(t, where+", Form", made, nil, api.OK, func(d *disk.Disk) api.Errno {
			Form(300)
			return api.OK
		})
		for _, n := range farInts {
			ops, fault := wantWrite(made(), n)
			checkOperations(t, fmt.Sprintf("%s, Write of %d", where, n), made, ops, fault, func(d *disk.Disk) api.Errno {
				return Write(d, n)
			})
		}
	}
}

// Some of them literally, apart from the model.
func TestOperationsLiterally(t *testing.T) {
	const form = "\x00\x05\x31\xb3\xe6\x70" + "cg1\x82\x2c" + "\xa0\x85\x2c\xb7"
	remove := op{kind: "remove", name: "manifest.new"}
	write := []op{{"append", "manifest.new", form}, {"sync", "manifest.new", ""}, {"rename", "manifest.new", "manifest"}}
	call := func(d *disk.Disk) api.Errno { return Write(d, 300) }
	at := stands(t)
	for _, where := range []string{"nothing", "a manifest", "a manifest that is none"} {
		checkOperations(t, where+", Write", at[where], write, api.OK, call)
		checkOperations(t, where+", Clean", at[where], nil, api.OK, Clean)
	}
	for _, where := range []string{"a draft", "a draft that isn't sure", "a manifest and an empty draft", "a manifest and a draft", "an empty manifest, and a draft"} {
		checkOperations(t, where+", Write", at[where], append([]op{remove}, write...), api.OK, call)
		checkOperations(t, where+", Clean", at[where], []op{remove}, api.OK, Clean)
	}
	checkOperations(t, "Write of 1", at["a manifest and a draft"], nil, api.ErrArg, func(d *disk.Disk) api.Errno { return Write(d, 1) })
	checkOperations(t, "Write of 100000", at["a manifest and a draft"], nil, api.ErrArg, func(d *disk.Disk) api.Errno { return Write(d, 100000) })
}

// What a Write leaves at each operation that isn't done any more.
func TestPowerFailsInWrite(t *testing.T) {
	elder, later := wantForm(7), wantForm(300)
	for fuse, c := range []struct {
		want  api.Errno
		files map[string]string
		sure  int
	}{
		{api.ErrDown, map[string]string{"manifest": elder, "manifest.new": "left"}, 0},
		{api.ErrDown, map[string]string{"manifest": elder}, 0},
		{api.ErrDown, map[string]string{"manifest": elder, "manifest.new": later}, 0},
		{api.ErrDown, map[string]string{"manifest": elder, "manifest.new": later}, len(later)},
		{api.OK, map[string]string{"manifest": later}, 0},
	} {
		d := fill(t, map[string]string{"manifest": elder})
		mustDo(t, "the draft", d.Append("manifest.new", "left"))
		d.Fuse(fuse)
		what := fmt.Sprintf("a fuse of %d", fuse)
		checkErr(t, what, Write(d, 300), c.want)
		checkFiles(t, what, d, c.files)
		if d.Sure("manifest.new") != c.sure {
			t.Errorf("%s: %d bytes of the draft are sure, not %d", what, d.Sure("manifest.new"), c.sure)
		}
		if c.want == api.OK {
			checkRead(t, what, d, 300, api.OK)
			continue
		}
		for range 3 {
			checkRead(t, what+", without power", d, 7, api.OK)
			checkErr(t, what+", without power", Write(d, 300), api.ErrDown)
			checkFiles(t, what+", without power", d, c.files)
		}
	}
}

func TestPowerFailsInClean(t *testing.T) {
	d := fill(t, map[string]string{"manifest": wantForm(7), "manifest.new": wantForm(8)})
	d.Fuse(0)
	for range 3 {
		checkErr(t, "Clean without power", Clean(d), api.ErrDown)
		checkRead(t, "Clean without power", d, 7, api.OK)
		if !isThere(d, "manifest.new") {
			t.Error("Clean without power removed the draft")
		}
	}
	d.Crash(0)
	checkRead(t, "crashed", d, 7, api.OK)
	checkErr(t, "Clean with power", Clean(d), api.OK)
	checkFiles(t, "behind Clean", d, map[string]string{"manifest": wantForm(7)})
	// Without a draft no power is wanted.
	d.Fuse(0)
	checkErr(t, "Clean without a draft", Clean(d), api.OK)
	checkErr(t, "it comes out that there is no power", d.Remove("nothing"), api.ErrDown)
	checkErr(t, "Clean without a draft and without power", Clean(d), api.OK)
}

// checkGoesOn cleans up, with power that fails as often as it may, and writes again.
func checkGoesOn(t *testing.T, what string, d *disk.Disk, last, number int, fault api.Errno) {
	t.Helper()
	for range 2 {
		d.Fuse(0)
		Clean(d)
		checkRead(t, what+", Clean without power", d, number, fault)
		d.Crash(last)
		checkRead(t, what+", crashed in Clean", d, number, fault)
	}
	checkErr(t, what+", Clean", Clean(d), api.OK)
	checkRead(t, what+", cleaned", d, number, fault)
	d.Room(mostBytes)
	checkErr(t, what+", Write again", Write(d, 555), api.OK)
	d.Crash(0)
	checkRead(t, what+", Write again", d, 555, api.OK)
	if isThere(d, "manifest.new") {
		t.Errorf("%s: there is a draft", what)
	}
}

// Wherever the power fails, and however much lasts, the number is the elder one, or, if Write answered OK, the later one.
func TestBehindACrash(t *testing.T) {
	const mostLast = 50
	for where, made := range stands(t) {
		elder, fault := wantRead(made())
		for _, n := range []int{2, 7, 8, 300, 99999} {
			for fuse := -1; fuse <= 5; fuse++ {
				for last := -1; last <= mostLast; last++ {
					what := fmt.Sprintf("%s, Write of %d with a fuse of %d, %d bytes last", where, n, fuse, last)
					d := made()
					d.Fuse(fuse)
					number, fault := elder, fault
					if Write(d, n) == api.OK {
						number, fault = n, api.OK
					}
					checkRead(t, what, d, number, fault)
					if d.Waits() > mostLast {
						t.Fatalf("%s: %d bytes wait", what, d.Waits())
					}
					d.Crash(last)
					checkRead(t, what+", crashed", d, number, fault)
					d.Crash(last)
					checkRead(t, what+", crashed again", d, number, fault)
					checkGoesOn(t, what, d, last, number, fault)
				}
			}
		}
	}
}

// Many Writes behind one another, where the power fails now and again.
func TestBehindManyCrashes(t *testing.T) {
	pick := rand.New(rand.NewSource(37))
	for run := range 200 {
		d := disk.New(mostBytes)
		number, written := 1, 0
		for step := range 100 {
			what := fmt.Sprintf("run %d, step %d", run, step)
			d.Fuse(pick.Intn(8) - 1)
			n := 2 + pick.Intn(lastNumber-1)
			d.Append("log.1", xs(pick.Intn(5)))
			if Write(d, n) == api.OK {
				number = n
				written++
			}
			if pick.Intn(2) == 0 {
				d.Crash(pick.Intn(30))
			}
			checkRead(t, what, d, number, api.OK)
			if pick.Intn(4) == 0 {
				Clean(d)
				checkRead(t, what+", Clean", d, number, api.OK)
			}
		}
		if written == 0 || written == 100 {
			t.Errorf("run %d: %d of 100 were written", run, written)
		}
	}
}

func TestTwoDisks(t *testing.T) {
	one, two := disk.New(100), disk.New(100)
	checkErr(t, "one", Write(one, 5), api.OK)
	checkRead(t, "two", two, 1, api.OK)
	checkErr(t, "two", Write(two, 6), api.OK)
	checkRead(t, "one", one, 5, api.OK)
	checkErr(t, "one", Write(one, 7), api.OK)
	checkRead(t, "two", two, 6, api.OK)
	mustDo(t, "Remove", one.Remove("manifest"))
	checkRead(t, "one, removed", one, 1, api.OK)
	checkRead(t, "two", two, 6, api.OK)
}

func TestSameAnswerAgain(t *testing.T) {
	d := fill(t, map[string]string{"manifest": wantForm(300)})
	for range 3 {
		checkRead(t, "again", d, 300, api.OK)
		checkErr(t, "no such number", Write(d, 1), api.ErrArg)
		checkErr(t, "again", Write(d, 300), api.OK)
		checkErr(t, "again", Clean(d), api.OK)
		checkFiles(t, "again", d, map[string]string{"manifest": wantForm(300)})
		if Form(300) != wantForm(300) || Form(1) != "" {
			t.Error("Form answers something else now")
		}
	}
}

// disturb does with a disk what others may do.
func disturb(d *disk.Disk, kind, n int, text string) {
	name := []string{"manifest", "manifest.new", "log.1", "x1"}[n%4]
	switch kind {
	case 0, 1, 2:
		d.Crash(n)
	case 3, 4:
		d.Fuse(n % 6)
	case 5:
		d.Append(name, text)
	case 6:
		d.Append("manifest.new", text[:n%(len(text)+1)])
	case 7:
		d.Remove(name)
	case 8:
		d.Cut(name, n%20)
	case 9:
		d.Room(n * 2)
	case 10:
		d.Rot(n%3, n/2, 1<<(n%8))
	case 11:
		for i := range n % 18 {
			d.Append(fmt.Sprintf("x%d", i), "")
		}
	case 12:
		for i := range 18 {
			d.Remove(fmt.Sprintf("x%d", i))
		}
	}
}

// Two disks, one on which the calls are made, and one on which what the document tells is done.
func TestLongRunsLikeTheModel(t *testing.T) {
	pick := rand.New(rand.NewSource(38))
	for run := range 400 {
		d, twin := disk.New(100), disk.New(100)
		for step := range 100 {
			what := fmt.Sprintf("run %d, step %d", run, step)
			switch pick.Intn(6) {
			case 0, 1, 2:
				n := 2 + pick.Intn(400)
				if pick.Intn(5) == 0 {
					n = farInts[pick.Intn(len(farInts))]
				}
				ops, want := wantWrite(twin, n)
				if want == api.OK {
					want = play(twin, ops)
				}
				checkErr(t, fmt.Sprintf("%s: Write of %d", what, n), Write(d, n), want)
			case 3:
				ops, _ := wantClean(twin)
				checkErr(t, what+": Clean", Clean(d), play(twin, ops))
			default:
				kind, n, text := pick.Intn(13), pick.Intn(60), wantForm(2+pick.Intn(400))
				disturb(d, kind, n, text)
				disturb(twin, kind, n, text)
			}
			checkSame(t, what, d, twin)
			want, fault := wantRead(twin)
			checkRead(t, what, d, want, fault)
			if t.Failed() {
				t.FailNow()
			}
		}
	}
}

func TestNoCallPanics(t *testing.T) {
	disks := func() []*disk.Disk {
		down := fill(t, map[string]string{"manifest": wantForm(5), "manifest.new": "left"})
		down.Fuse(0)
		down.Remove("manifest")
		full := fill(t, map[string]string{"manifest": xs(30000), "manifest.new": xs(30000)})
		crowded := disk.New(mostBytes)
		others(t, crowded, mostFiles)
		all := []*disk.Disk{nil, {}, disk.New(0), disk.New(math.MinInt), disk.New(math.MaxInt), down, full, crowded}
		for _, c := range broken() {
			all = append(all, fill(t, map[string]string{"manifest": c.text, "manifest.new": c.text}))
		}
		return all
	}
	for _, n := range farInts {
		for _, d := range disks() {
			Form(n)
			Read(d)
			Write(d, n)
			Read(d)
			Clean(d)
			Clean(d)
			Read(d)
		}
	}
}
