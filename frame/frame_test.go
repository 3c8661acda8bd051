package frame

import (
	"encoding/binary"
	"hash/crc32"
	"math"
	"math/rand"
	"slices"
	"strings"
	"testing"

	"concierge/api"
)

// The limit as the document writes it out, so that the tests do not lean on the program's own.
const mostBytes = 2000

// made are contents with their frames, byte for byte: head and its sum, content, its sum.
var made = []struct{ content, frame string }{
	{"", "\x00\x00\x41\xd9\x12\xff" + "" + "\x00\x00\x00\x00"},
	{"a", "\x00\x01\x36\xde\x22\x69" + "a" + "\xe8\xb7\xbe\x43"},
	{"abc", "\x00\x03\xd8\xd0\x43\x45" + "abc" + "\x35\x24\x41\xc2"},
	{"123456789", "\x00\x09\x38\x05\xaa\x5b" + "123456789" + "\xcb\xf4\x39\x26"},
	{"16660", "\x00\x05\x31\xb3\xe6\x70" + "16660" + "\x00\x00\xf9\xad"},
	{"\x00", "\x00\x01\x36\xde\x22\x69" + "\x00" + "\xd2\x02\xef\x8d"},
	{"\xff", "\x00\x01\x36\xde\x22\x69" + "\xff" + "\xff\x00\x00\x00"},
	{"\x80\xfe", "\x00\x02\xaf\xd7\x73\xd3" + "\x80\xfe" + "\x20\x5f\x55\xaf"},
	{"\x00\x00\x00\x00", "\x00\x04\x46\xb4\xd6\xe6" + "\x00\x00\x00\x00" + "\x21\x44\xdf\x1c"},
	{"\xff\xff\xff\xff", "\x00\x04\x46\xb4\xd6\xe6" + "\xff\xff\xff\xff" + "\xff\xff\xff\xff"},
	{"\x9d\x0a\xd9\x6d", "\x00\x04\x46\xb4\xd6\xe6" + "\x9d\x0a\xd9\x6d" + "\x00\x00\x00\x00"},
	{"\u00e9\u20ac", "\x00\x05\x31\xb3\xe6\x70" + "\xc3\xa9\xe2\x82\xac" + "\x24\x47\x22\x5d"},
	{strings.Repeat("x", 255), "\x00\xff\x6c\xdb\xfd\x72" + strings.Repeat("x", 255) + "\x3d\x66\xe3\xd9"},
	{strings.Repeat("x", 256), "\x01\x00\x58\xc2\x23\xbe" + strings.Repeat("x", 256) + "\x73\xee\x1a\x10"},
	{strings.Repeat("x", 258), "\x01\x02\xb6\xcc\x42\x92" + strings.Repeat("x", 258) + "\x4f\x41\x80\xca"},
	{strings.Repeat("x", 2000), "\x07\xd0\x88\x4b\x56\xec" + strings.Repeat("x", 2000) + "\x29\x08\x65\x7a"},
}

// emptyFrame is the frame of no bytes.
const emptyFrame = "\x00\x00\x41\xd9\x12\xff\x00\x00\x00\x00"

// wantSum is the sum in four bytes, made by others.
func wantSum(s string) string {
	return string(binary.BigEndian.AppendUint32(nil, crc32.ChecksumIEEE([]byte(s))))
}

// wantHead is a head with the right sum, also of a number that may not be.
func wantHead(count int) string {
	told := string(binary.BigEndian.AppendUint16(nil, uint16(count)))
	return told + wantSum(told)
}

func wantFrame(content string) string {
	return wantHead(len(content)) + content + wantSum(content)
}

func wantFrames(contents []string) string {
	var all strings.Builder
	for _, content := range contents {
		all.WriteString(wantFrame(content))
	}
	return all.String()
}

// wantFirst asks one thing behind the other, in the order of the document.
func wantFirst(s string) (string, int, api.Errno) {
	if len(s) < 6 {
		return "", 0, api.ErrForm
	}
	if wantSum(s[:2]) != s[2:6] {
		return "", 0, api.ErrSum
	}
	count := int(binary.BigEndian.Uint16([]byte(s)))
	if count > mostBytes {
		return "", 0, api.ErrLong
	}
	if len(s) < count+10 {
		return "", 0, api.ErrForm
	}
	if wantSum(s[6:6+count]) != s[6+count:10+count] {
		return "", 0, api.ErrSum
	}
	return s[6 : 6+count], count + 10, api.OK
}

// wantSplit is told of the rest by itself, in place of a loop.
func wantSplit(s string) ([]string, int, api.Errno) {
	if s == "" {
		return nil, 0, api.OK
	}
	content, size, fault := wantFirst(s)
	if fault != api.OK {
		return nil, 0, fault
	}
	contents, behind, fault := wantSplit(s[size:])
	return append([]string{content}, contents...), size + behind, fault
}

// short cuts a text that is told in a fault's line.
func short(s string) string {
	return s[:min(len(s), 60)]
}

func checkFirst(t *testing.T, what, s, content string, size int, fault api.Errno) {
	t.Helper()
	gotContent, gotSize, gotFault := First(s)
	if gotContent != content || gotSize != size || gotFault != fault {
		t.Errorf("%s: First of %d bytes %x is %x, %d, %d, not %x, %d, %d", what, len(s), short(s), short(gotContent), gotSize, gotFault, short(content), size, fault)
	}
}

func checkSplit(t *testing.T, what, s string, contents []string, size int, fault api.Errno) {
	t.Helper()
	gotContents, gotSize, gotFault := Split(s)
	if !slices.Equal(gotContents, contents) || gotSize != size || gotFault != fault {
		t.Errorf("%s: Split of %d bytes %x has %d contents, %d, %d, not %d, %d, %d", what, len(s), short(s), len(gotContents), gotSize, gotFault, len(contents), size, fault)
	}
}

// checkNone asks both calls of a text that begins with no whole frame.
func checkNone(t *testing.T, what, s string, fault api.Errno) {
	t.Helper()
	checkFirst(t, what, s, "", 0, fault)
	checkSplit(t, what, s, nil, 0, fault)
	ahead := []string{"abc", "", "\xff"}
	whole := wantFrames(ahead)
	checkSplit(t, what+", behind whole ones", whole+s, ahead, len(whole), fault)
	checkFirst(t, what+", behind whole ones", whole+s, "abc", 13, api.OK)
}

func checkLikeTheModel(t *testing.T, what, s string) {
	t.Helper()
	content, size, fault := wantFirst(s)
	checkFirst(t, what, s, content, size, fault)
	contents, size, fault := wantSplit(s)
	checkSplit(t, what, s, contents, size, fault)
}

func randomContent(pick *rand.Rand, most int) string {
	b := make([]byte, pick.Intn(most+1))
	pick.Read(b)
	return string(b)
}

func randomContents(pick *rand.Rand, count, most int) []string {
	var contents []string
	for range count {
		contents = append(contents, randomContent(pick, most))
	}
	return contents
}

// makeAll lays the frames that Make makes one behind the other.
func makeAll(t *testing.T, contents []string) string {
	t.Helper()
	var all strings.Builder
	for _, content := range contents {
		made, fault := Make(content)
		if fault != api.OK {
			t.Fatalf("Make of %d bytes: %d", len(content), fault)
		}
		all.WriteString(made)
	}
	return all.String()
}

func TestFramesByteForByte(t *testing.T) {
	for _, c := range made {
		if got, fault := Make(c.content); got != c.frame || fault != api.OK {
			t.Errorf("Make(%x) is %x, %d, not %x", short(c.content), short(got), fault, short(c.frame))
		}
		checkFirst(t, "alone", c.frame, c.content, len(c.frame), api.OK)
		checkSplit(t, "alone", c.frame, []string{c.content}, len(c.frame), api.OK)
	}
}

func TestFramesOfEachByte(t *testing.T) {
	for b := range 256 {
		for _, content := range []string{string([]byte{byte(b)}), strings.Repeat(string([]byte{byte(b)}), 7)} {
			if got, fault := Make(content); got != wantFrame(content) || fault != api.OK {
				t.Errorf("Make(%x) is %x, %d", content, got, fault)
			}
			checkFirst(t, "a byte", wantFrame(content), content, len(content)+10, api.OK)
		}
	}
}

// Each number that a head may tell, with a content of so many bytes.
func TestFramesOfEachLength(t *testing.T) {
	bytes := make([]byte, mostBytes)
	rand.New(rand.NewSource(10)).Read(bytes)
	for n := range mostBytes + 1 {
		content := string(bytes[:n])
		want := wantFrame(content)
		if got, fault := Make(content); got != want || fault != api.OK {
			t.Errorf("Make of %d bytes: %x, %d, not %x", n, short(got), fault, short(want))
		}
		if got := Size(n); got != len(want) {
			t.Errorf("Size(%d) is %d, not %d", n, got, len(want))
		}
		checkFirst(t, "alone", want, content, n+10, api.OK)
		checkSplit(t, "alone", want, []string{content}, n+10, api.OK)
	}
}

func TestSizes(t *testing.T) {
	for _, c := range []struct{ n, want int }{
		{0, 10}, {1, 11}, {2, 12}, {255, 265}, {256, 266}, {1990, 2000}, {1991, 2001}, {1999, 2009}, {2000, 2010},
		{2001, 0}, {2002, 0}, {2010, 0}, {2011, 0}, {65535, 0}, {65536, 0}, {65536 + 5, 0}, {1 << 31, 0}, {1 << 32, 0}, {1<<32 + 3, 0}, {math.MaxInt - 10, 0}, {math.MaxInt - 9, 0}, {math.MaxInt, 0},
		{-1, 0}, {-2, 0}, {-9, 0}, {-10, 0}, {-11, 0}, {-2000, 0}, {-65536, 0}, {-65535, 0}, {-1 << 32, 0}, {1 - 1<<32, 0}, {math.MinInt, 0}, {math.MinInt + 1, 0}, {math.MinInt + 10, 0},
	} {
		if got := Size(c.n); got != c.want {
			t.Errorf("Size(%d) is %d, not %d", c.n, got, c.want)
		}
	}
}

func TestMakeOfTooMany(t *testing.T) {
	for _, n := range []int{2001, 2002, 2010, 4096, 65535, 65536, 65536 + 3, 1 << 20} {
		if got, fault := Make(strings.Repeat("x", n)); got != "" || fault != api.ErrLong {
			t.Errorf("Make of %d bytes: %x, %d", n, short(got), fault)
		}
	}
	// It is bytes that are counted, not signs.
	if got, fault := Make(strings.Repeat("\u20ac", 667)); got != "" || fault != api.ErrLong {
		t.Errorf("Make of 667 signs of 3 bytes: %x, %d", short(got), fault)
	}
	if got, fault := Make(strings.Repeat("\u20ac", 666)); len(got) != 2008 || fault != api.OK {
		t.Errorf("Make of 666 signs of 3 bytes: %d bytes, %d", len(got), fault)
	}
}

// A frame of 2001 bytes has all that a frame has, and is none.
func TestFramesOfTheLongestAndOneMore(t *testing.T) {
	longest := strings.Repeat("x", 2000)
	checkFirst(t, "2000 bytes", wantFrame(longest), longest, 2010, api.OK)
	checkSplit(t, "2000 bytes", wantFrame(longest)+wantFrame(longest), []string{longest, longest}, 4020, api.OK)
	checkNone(t, "2001 bytes", wantFrame(longest+"x"), api.ErrLong)
	checkNone(t, "2001 bytes, and more", wantFrame(longest+"x")+emptyFrame, api.ErrLong)
}

func TestSplitOfSeveral(t *testing.T) {
	for _, c := range []struct {
		contents []string
		size     int
	}{
		{nil, 0}, {[]string{""}, 10}, {[]string{"", ""}, 20}, {[]string{"", "", "", ""}, 40}, {[]string{"abc"}, 13},
		{[]string{"abc", ""}, 23}, {[]string{"", "abc"}, 23}, {[]string{"abc", "", "abc"}, 36}, {[]string{"abc", "abc", "abc"}, 39},
		{[]string{"b", "a", "\x00", "\xff", "a"}, 55}, {[]string{emptyFrame, "", emptyFrame}, 50},
		{[]string{strings.Repeat("x", 2000), "", strings.Repeat("y", 1999), "z"}, 2010 + 10 + 2009 + 11},
	} {
		s := makeAll(t, c.contents)
		if s != wantFrames(c.contents) {
			t.Errorf("frames of %d contents: %x", len(c.contents), short(s))
		}
		checkSplit(t, "several", s, c.contents, c.size, api.OK)
	}
}

func TestWhatIsMadeIsSplitAgain(t *testing.T) {
	pick := rand.New(rand.NewSource(101))
	for run := range 600 {
		most := []int{0, 1, 3, 12, 80, 400, mostBytes}[run%7]
		contents := randomContents(pick, pick.Intn(12), most)
		s := makeAll(t, contents)
		checkSplit(t, "made", s, contents, len(s), api.OK)
		if len(contents) > 0 {
			checkFirst(t, "made", s, contents[0], Size(len(contents[0])), api.OK)
		}
	}
}

func TestSplitOfVeryMany(t *testing.T) {
	contents := slices.Repeat([]string{"", "a", "\x80\xfe"}, 4000)
	s := makeAll(t, contents)
	checkSplit(t, "very many", s, contents, 12000*10+12000, api.OK)
	checkSplit(t, "very many, and a byte", s+"\x00", contents, 12000*10+12000, api.ErrForm)
}

// A content that is made of frames itself is one content.
func TestFramesOfFrames(t *testing.T) {
	inner := wantFrame("abc") + wantFrame("") + wantFrame("de")
	outer := wantFrame(inner)
	checkFirst(t, "of frames", outer, inner, len(inner)+10, api.OK)
	checkSplit(t, "of frames", outer+outer, []string{inner, inner}, 2*len(outer), api.OK)
	content, _, _ := First(outer)
	checkSplit(t, "within", content, []string{"abc", "", "de"}, len(inner), api.OK)
}

func TestNothingThere(t *testing.T) {
	checkFirst(t, "no bytes", "", "", 0, api.ErrForm)
	checkSplit(t, "no bytes", "", nil, 0, api.OK)
}

func TestFewerThanAHead(t *testing.T) {
	for n := 1; n < 6; n++ {
		checkNone(t, "the front of a right head", emptyFrame[:n], api.ErrForm)
		checkNone(t, "the front of a head that tells 2000", wantHead(2000)[:n], api.ErrForm)
		for _, b := range []string{"\x00", "\xff", "a"} {
			checkNone(t, "no head", strings.Repeat(b, n), api.ErrForm)
		}
		// With a wrong sum, or a number that is too great, it is still the bytes that are missing.
		checkNone(t, "the front of a head that tells 2001", wantHead(2001)[:n], api.ErrForm)
		checkNone(t, "the front of a head that tells 65535", wantHead(65535)[:n], api.ErrForm)
	}
	checkNone(t, "a sum that is wrong already", "\x00\x00\x41\xd9\x13", api.ErrForm)
}

func TestSixToTenBytes(t *testing.T) {
	for n := 6; n < 10; n++ {
		checkNone(t, "the front of the frame of no bytes", emptyFrame[:n], api.ErrForm)
		checkNone(t, "bytes of 0", strings.Repeat("\x00", n), api.ErrSum)
		checkNone(t, "a head that tells a byte", (wantHead(1) + "abcd")[:n], api.ErrForm)
		checkNone(t, "a head that tells 2001", (wantHead(2001) + "abcd")[:n], api.ErrLong)
		checkNone(t, "a head with another sum", ("\x00\x00\x41\xd9\x12\xfe" + "\x00\x00\x00\x00")[:n], api.ErrSum)
	}
	checkFirst(t, "ten bytes", emptyFrame, "", 10, api.OK)
	checkSplit(t, "ten bytes", emptyFrame, []string{""}, 10, api.OK)
	checkNone(t, "ten bytes, and another sum", emptyFrame[:9]+"\x01", api.ErrSum)
	checkNone(t, "ten bytes of a frame of eleven", wantFrame("a")[:10], api.ErrForm)
	checkNone(t, "ten bytes of 0", strings.Repeat("\x00", 10), api.ErrSum)
	checkFirst(t, "eleven bytes", wantFrame("a"), "a", 11, api.OK)
	checkFirst(t, "ten bytes, and one more", emptyFrame+"\x00", "", 10, api.OK)
	checkSplit(t, "ten bytes, and one more", emptyFrame+"\x00", []string{""}, 10, api.ErrForm)
}

// Every number that a head can tell, with its right sum, and nothing behind it.
func TestEachHead(t *testing.T) {
	for count := range 1 << 16 {
		want := api.ErrForm
		if count > mostBytes {
			want = api.ErrLong
		}
		checkFirst(t, "a head alone", wantHead(count), "", 0, want)
	}
	checkNone(t, "a head that tells 2000", wantHead(2000), api.ErrForm)
	checkNone(t, "a head that tells 2001", wantHead(2001), api.ErrLong)
	checkNone(t, "a head that tells 65535", wantHead(65535), api.ErrLong)
}

// As many bytes as each head tells are there, with their right sum.
func TestHeadsThatTellTooMany(t *testing.T) {
	for _, count := range []int{2001, 2002, 2047, 2048, 2256, 4096, 32767, 32768, 34768, 65534, 65535} {
		content := strings.Repeat("k", count)
		checkNone(t, "too many", wantFrame(content), api.ErrLong)
		checkNone(t, "too many, and a byte less than is told", wantFrame(content)[:count+9], api.ErrLong)
		checkNone(t, "too many, and another sum", wantHead(count)+content+"\x00\x00\x00\x00", api.ErrLong)
	}
}

func TestMoreBehindAFrame(t *testing.T) {
	pick := rand.New(rand.NewSource(102))
	for _, c := range made {
		for n := 1; n < 24; n++ {
			for _, more := range []string{strings.Repeat("\x00", n), strings.Repeat("\xff", n), randomContent(pick, n)} {
				checkFirst(t, "more behind", c.frame+more, c.content, len(c.frame), api.OK)
				checkLikeTheModel(t, "more behind", c.frame+more)
			}
		}
		for b := range 256 {
			more := string([]byte{byte(b)})
			checkSplit(t, "a byte behind", c.frame+more, []string{c.content}, len(c.frame), api.ErrForm)
		}
		checkSplit(t, "six bytes behind", c.frame+"\x00\x00\x00\x00\x00\x00", []string{c.content}, len(c.frame), api.ErrSum)
	}
}

// checkCuts cuts frames at every place: at the end of one nothing is left, elsewhere it is too few.
func checkCuts(t *testing.T, contents []string) {
	t.Helper()
	s := makeAll(t, contents)
	whole, end := 0, 0 // frames that end at the cut or ahead of it, and where the last of them ends
	for cut := range len(s) + 1 {
		for whole < len(contents) && end+len(contents[whole])+10 <= cut {
			end += len(contents[whole]) + 10
			whole++
		}
		want := api.ErrForm
		if cut == end {
			want = api.OK
		}
		checkSplit(t, "cut", s[:cut], contents[:whole], end, want)
	}
}

func TestCutAnywhere(t *testing.T) {
	checkCuts(t, []string{"abc", "", "de"})
	checkCuts(t, []string{"", "", "", ""})
	checkCuts(t, []string{emptyFrame + emptyFrame, "", emptyFrame})
	checkCuts(t, []string{strings.Repeat("\x00", 30), strings.Repeat("\xff", 30), ""})
	checkCuts(t, []string{strings.Repeat("x", 300), strings.Repeat("y", 256), "z"})
	checkCuts(t, []string{strings.Repeat("x", 2000), "y"})
	checkCuts(t, []string{"a", strings.Repeat("\x00", 2000)})
	pick := rand.New(rand.NewSource(103))
	for range 60 {
		checkCuts(t, randomContents(pick, pick.Intn(9), 20))
	}
}

func TestFirstOfACutFrame(t *testing.T) {
	for _, c := range made {
		for cut := range len(c.frame) {
			checkFirst(t, "cut", c.frame[:cut], "", 0, api.ErrForm)
		}
	}
}

// changed answers s with the byte at that place xor'ed.
func changed(s string, at int, by byte) string {
	return s[:at] + string([]byte{s[at] ^ by}) + s[at+1:]
}

// checkChanges changes each byte of frames by each of these: what stands ahead is there, and a sum tells.
func checkChanges(t *testing.T, contents []string, by []byte) {
	t.Helper()
	s := makeAll(t, contents)
	ahead, start := 0, 0 // frames ahead of the changed byte, and where its own begins
	for at := range len(s) {
		if at == start+len(contents[ahead])+10 {
			start = at
			ahead++
		}
		for _, b := range by {
			other := changed(s, at, b)
			checkSplit(t, "a byte changed", other, contents[:ahead], start, api.ErrSum)
			if ahead == 0 {
				checkFirst(t, "a byte changed", other, "", 0, api.ErrSum)
			} else {
				checkFirst(t, "a later byte changed", other, contents[0], len(contents[0])+10, api.OK)
			}
		}
	}
}

func eachBit() []byte {
	return []byte{1, 2, 4, 8, 16, 32, 64, 128}
}

func eachChange() []byte {
	var by []byte
	for b := 1; b < 256; b++ {
		by = append(by, byte(b))
	}
	return by
}

func TestAByteOfAFrameChanged(t *testing.T) {
	for _, c := range made {
		by := eachChange()
		if len(c.content) > 100 {
			by = eachBit()
		}
		checkChanges(t, []string{c.content}, by)
	}
}

func TestAByteOfSeveralChanged(t *testing.T) {
	checkChanges(t, []string{"abc", "", "de"}, eachChange())
	checkChanges(t, []string{"", "", ""}, eachChange())
	checkChanges(t, []string{emptyFrame, "\x00\x00\x00", strings.Repeat("\xff", 11)}, eachChange())
	checkChanges(t, []string{strings.Repeat("x", 300), "", strings.Repeat("y", 256)}, eachBit())
	pick := rand.New(rand.NewSource(104))
	for range 40 {
		checkChanges(t, randomContents(pick, 1+pick.Intn(5), 15), eachBit())
	}
}

func TestOtherSumsOfAHead(t *testing.T) {
	sum := wantSum("\x00\x03")
	rest := "abc" + wantSum("abc")
	for what, other := range map[string]string{
		"bytes of 0":             "\x00\x00\x00\x00",
		"bytes of 255":           "\xff\xff\xff\xff",
		"the lowest byte first":  string([]byte{sum[3], sum[2], sum[1], sum[0]}),
		"bits turned":            string([]byte{^sum[0], ^sum[1], ^sum[2], ^sum[3]}),
		"of another number":      wantSum("\x00\x04"),
		"of the number as lower": wantSum("\x03\x00"),
		"of its lower byte":      wantSum("\x03"),
		"of the content":         wantSum("abc"),
		"of both":                wantSum("\x00\x03abc"),
	} {
		checkNone(t, "a head's sum: "+what, "\x00\x03"+other+rest, api.ErrSum)
	}
	// The lower byte first is another number, even where its sum is right.
	checkNone(t, "the lower byte first", "\x03\x00"+wantSum("\x03\x00")+rest, api.ErrForm)
	checkNone(t, "the lower byte first", "\x09\x00"+wantSum("\x09\x00")+"123456789\xcb\xf4\x39\x26", api.ErrLong)
}

func TestOtherSumsOfAContent(t *testing.T) {
	sum := wantSum("abc")
	for what, other := range map[string]string{
		"bytes of 0":            "\x00\x00\x00\x00",
		"bytes of 255":          "\xff\xff\xff\xff",
		"the lowest byte first": string([]byte{sum[3], sum[2], sum[1], sum[0]}),
		"bits turned":           string([]byte{^sum[0], ^sum[1], ^sum[2], ^sum[3]}),
		"of another content":    wantSum("abd"),
		"of its front":          wantSum("ab"),
		"of the head":           wantSum("\x00\x03"),
		"of the head and it":    wantSum("\x00\x03abc"),
		"of all ahead of it":    wantSum(wantHead(3) + "abc"),
	} {
		checkNone(t, "a content's sum: "+what, wantHead(3)+"abc"+other, api.ErrSum)
	}
	checkNone(t, "the sum ahead of the content", wantHead(3)+sum+"abc", api.ErrSum)
}

// A head that tells a byte more or less than there is, with its right sum.
func TestHeadsThatTellAnotherNumber(t *testing.T) {
	for _, content := range []string{"a", "abc", "123456789", "\x80\xfe", strings.Repeat("x", 256)} {
		rest := content + wantSum(content)
		checkNone(t, "a byte too many", wantHead(len(content)+1)+rest, api.ErrForm)
		checkNone(t, "a byte too many, and it is there", wantHead(len(content)+1)+rest+"\x00", api.ErrSum)
		checkNone(t, "a byte too few", wantHead(len(content)-1)+rest, api.ErrSum)
	}
}

// Of several faults that there are the one stands that the document names first.
func TestTwoFaults(t *testing.T) {
	longSum := "\x07\xd1\xff\x4c\x66\x7b"  // tells 2001, with another sum
	shortSum := "\x00\x03\xd8\xd0\x43\x44" // tells 3, with another sum
	long := strings.Repeat("x", 2001)
	for _, c := range []struct {
		what, s string
		want    api.Errno
	}{
		{"too few for a head, and another sum", shortSum[:5], api.ErrForm},
		{"too few for a head, and too many told", wantHead(2001)[:5], api.ErrForm},
		{"too few for a head, another sum, and too many told", longSum[:3], api.ErrForm},
		{"another sum, and too many told", longSum + long + wantSum(long), api.ErrSum},
		{"another sum, too many told, and too few", longSum, api.ErrSum},
		{"another sum, and too few", shortSum + "ab", api.ErrSum},
		{"another sum, and none behind it", shortSum, api.ErrSum},
		{"both sums", shortSum + "abc\x00\x00\x00\x00", api.ErrSum},
		{"both sums, and too many told", longSum + long + "\x00\x00\x00\x00", api.ErrSum},
		{"too many told, and too few", wantHead(2001) + long[:2000], api.ErrLong},
		{"too many told, and none behind it", wantHead(2001), api.ErrLong},
		{"too many told, and another sum", wantHead(2001) + long + "\x00\x00\x00\x00", api.ErrLong},
		{"too few by one, and another sum", wantHead(3) + "abc" + "\x00\x00\x00", api.ErrForm},
		{"too few by four", wantHead(3) + "abc", api.ErrForm},
		{"too few, and another content", wantHead(3) + "abd" + wantSum("abc")[:3], api.ErrForm},
		{"2000 told, too few by one", wantHead(2000) + long[:2000] + "\x00\x00\x00", api.ErrForm},
	} {
		checkNone(t, c.what, c.s, c.want)
		checkLikeTheModel(t, c.what, c.s)
	}
}

// The first frame that isn't whole tells, whatever stands behind it.
func TestTwoFramesWithFaults(t *testing.T) {
	whole := wantFrame("abc")
	faults := []struct {
		s    string
		want api.Errno
	}{
		{changed(whole, 0, 1), api.ErrSum},
		{changed(whole, 7, 1), api.ErrSum},
		{changed(whole, 12, 1), api.ErrSum},
		{wantHead(2001) + "abc", api.ErrLong},
		{wantHead(1000) + "abc", api.ErrForm},
	}
	for _, first := range faults {
		for _, second := range faults {
			checkSplit(t, "two faults", whole+first.s+second.s, []string{"abc"}, 13, first.want)
			checkSplit(t, "two faults", whole+first.s+whole+second.s, []string{"abc"}, 13, first.want)
		}
		checkSplit(t, "a fault ahead", first.s+whole, nil, 0, first.want)
		checkFirst(t, "a fault ahead", first.s+whole, "", 0, first.want)
		checkFirst(t, "a fault behind", whole+first.s, "abc", 13, api.OK)
	}
}

// damaged answers s with some bytes changed, taken away, put there or laid twice.
func damaged(pick *rand.Rand, s string) string {
	for range pick.Intn(3) {
		if s == "" {
			return s
		}
		at := pick.Intn(len(s))
		switch pick.Intn(5) {
		case 0:
			s = s[:at]
		case 1:
			s = s[at:]
		case 2:
			s = s[:at] + s[at+1:]
		case 3:
			s = s[:at] + randomContent(pick, 12) + s[at:]
		default:
			s = changed(s, at, byte(pick.Intn(256)))
		}
	}
	return s
}

// piece is a frame, or what looks like a part of one.
func piece(pick *rand.Rand) string {
	content := randomContent(pick, 12)
	switch pick.Intn(8) {
	case 0:
		return wantHead(pick.Intn(20)) + content + wantSum(content)
	case 1:
		return wantHead(1999+pick.Intn(4)) + content
	case 2:
		return content
	}
	return wantFrame(content)
}

func TestLongRunsLikeTheModel(t *testing.T) {
	pick := rand.New(rand.NewSource(105))
	for range 20000 {
		var s strings.Builder
		for range pick.Intn(6) {
			s.WriteString(piece(pick))
		}
		checkLikeTheModel(t, "made up", damaged(pick, s.String()))
	}
}

// All texts of up to seven bytes of those that the smallest frames have.
func TestAllShortTexts(t *testing.T) {
	var walk func(s string, left int)
	walk = func(s string, left int) {
		checkLikeTheModel(t, "short", s)
		if left == 0 {
			return
		}
		for _, b := range []string{"\x00", "\x41", "\xd9", "\x12", "\xff"} {
			walk(s+b, left-1)
		}
	}
	walk("", 7)
}

// What Split answers is the caller's own.
func TestContentsAreTheCallersOwn(t *testing.T) {
	s := wantFrame("abc") + wantFrame("") + wantFrame("de")
	contents, _, _ := Split(s)
	contents[0], contents[2] = "x", "y"
	_ = append(contents[:1], "z", "w")
	checkSplit(t, "again", s, []string{"abc", "", "de"}, 35, api.OK)
	if contents[0] != "x" || contents[1] != "z" || contents[2] != "w" {
		t.Errorf("what was answered has changed: %q", contents)
	}
}

// What a call answers hangs on its arguments alone.
func TestSameAnswerAgain(t *testing.T) {
	texts := []string{emptyFrame, wantFrame("abc") + "\x00", wantHead(2001), changed(wantFrame("abc"), 8, 1), "", wantFrame("abc")[:12]}
	for range 3 {
		for _, s := range texts {
			checkLikeTheModel(t, "again", s)
			if got, fault := Make(s); got != wantFrame(s) || fault != api.OK {
				t.Errorf("Make(%x) is %x, %d", s, got, fault)
			}
		}
		slices.Reverse(texts)
	}
}

func TestNoCallPanics(t *testing.T) {
	pick := rand.New(rand.NewSource(106))
	wild := []string{"", "\x00", "\xff", strings.Repeat("\x00", 1<<16), strings.Repeat("\xff", 1<<16), strings.Repeat(emptyFrame, 1000) + "\xff", wantHead(65535) + strings.Repeat("x", 1<<17)}
	for range 2000 {
		wild = append(wild, randomContent(pick, 60), wantHead(pick.Intn(1<<16))+randomContent(pick, 60))
	}
	for _, s := range wild {
		Make(s)
		checkLikeTheModel(t, "wild", s)
	}
	for range 2000 {
		// None of these is a number of bytes that a content may have.
		n := int(pick.Uint64()) | (mostBytes + 1)
		if got := Size(n); got != 0 {
			t.Errorf("Size(%d) is %d", n, got)
		}
	}
}
