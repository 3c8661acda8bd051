package json

import (
	"bytes"
	stdjson "encoding/json"
	"fmt"
	"math"
	"math/rand"
	"regexp"
	"slices"
	"sort"
	"strconv"
	"strings"
	"testing"
	"unicode/utf8"

	"concierge/api"
)

// The limits as the document writes them out, so that the tests do not lean on the program's own.
const (
	mostBytes = 400
	mostDepth = 8
)

var farInts = []int{math.MinInt, math.MinInt + 1, -1 << 32, -400, -2, -1, 0, 1, 2, 3, 7, 8, 9, 199, 200, 399, 400, 401, 1 << 32, 1<<32 + 1, math.MaxInt - 1, math.MaxInt}

const (
	unitPattern = `\\u(?:[0-9abcefABCEF][0-9a-fA-F]{3}|[dD][0-7][0-9a-fA-F]{2})`
	pairPattern = `\\u[dD][89abAB][0-9a-fA-F]{2}\\u[dD][c-fC-F][0-9a-fA-F]{2}`
)

// part is the document's text cut into its parts, apart from how the program reads it.
var part = regexp.MustCompile(`\A(?:[ \t\n\r]|[\[\]{},:]|null|false|true|-?(?:0|[1-9][0-9]{0,14})|` +
	`"(?:[^\x00-\x1f"\\]|\\["\\/bfnrt]|` + unitPattern + `|` + pairPattern + `)*")`)

// below are the forms of the code points below 32.
var below = [32]string{
	`\u0000`, `\u0001`, `\u0002`, `\u0003`, `\u0004`, `\u0005`, `\u0006`, `\u0007`, `\b`, `\t`, `\n`, `\u000b`, `\f`, `\r`, `\u000e`, `\u000f`,
	`\u0010`, `\u0011`, `\u0012`, `\u0013`, `\u0014`, `\u0015`, `\u0016`, `\u0017`, `\u0018`, `\u0019`, `\u001a`, `\u001b`, `\u001c`, `\u001d`, `\u001e`, `\u001f`,
}

// level is a list or an object that is open, with the names that an object has so far.
type level struct {
	list  bool
	names []string
}

// model goes through the parts of a text with what may come next: a value, an end too (behind a [ or a {), a name, a colon, or what stands behind a value.
type model struct {
	open []level
	next string
}

// wantFault is the document's fault of a text.
func wantFault(s string) api.Errno {
	if len(s) > mostBytes {
		return api.ErrLong
	}
	m := model{next: "value"}
	for s != "" {
		p := part.FindString(s)
		if p == "" || !utf8.ValidString(p) {
			return api.ErrForm
		}
		if fault := m.take(p); fault != api.OK {
			return fault
		}
		s = s[len(p):]
	}
	if m.next != "behind" || len(m.open) > 0 {
		return api.ErrForm
	}
	return api.OK
}

func (m *model) take(p string) api.Errno {
	switch p[0] {
	case ' ', '\t', '\n', '\r':
		return api.OK
	case ']', '}':
		return m.end(p == "]")
	case ',':
		return m.comma()
	case ':':
		return m.step("colon", "value")
	case '"':
		if m.next == "name" || m.next == "name or end" {
			return m.name(p)
		}
	case '[', '{':
		return m.opens(p == "[")
	}
	if m.next == "value or end" {
		m.next = "value"
	}
	return m.step("value", "behind")
}

func (m *model) step(now, then string) api.Errno {
	if m.next != now {
		return api.ErrForm
	}
	m.next = then
	return api.OK
}

func (m *model) opens(list bool) api.Errno {
	if m.next != "value" && m.next != "value or end" {
		return api.ErrForm
	}
	if len(m.open) == mostDepth {
		return api.ErrOver
	}
	m.open = append(m.open, level{list: list})
	m.next = "name or end"
	if list {
		m.next = "value or end"
	}
	return api.OK
}

func (m *model) end(list bool) api.Errno {
	last := len(m.open) - 1
	if last < 0 || m.open[last].list != list || m.next != "behind" && !strings.HasSuffix(m.next, " or end") {
		return api.ErrForm
	}
	m.open = m.open[:last]
	m.next = "behind"
	return api.OK
}

func (m *model) comma() api.Errno {
	last := len(m.open) - 1
	if last < 0 {
		return api.ErrForm
	}
	then := "name"
	if m.open[last].list {
		then = "value"
	}
	return m.step("behind", then)
}

func (m *model) name(p string) api.Errno {
	o := &m.open[len(m.open)-1]
	var name string
	if err := stdjson.Unmarshal([]byte(p), &name); err != nil {
		panic(err)
	}
	if slices.Contains(o.names, name) {
		return api.ErrThere
	}
	o.names = append(o.names, name)
	m.next = "colon"
	return api.OK
}

// tree is the value of a text that has no fault, as the language's library reads it.
func tree(s string) any {
	d := stdjson.NewDecoder(strings.NewReader(s))
	d.UseNumber()
	var v any
	if err := d.Decode(&v); err != nil {
		panic(fmt.Sprintf("%q: %v", s, err))
	}
	return v
}

func wantForm(v any) string {
	switch x := v.(type) {
	case nil:
		return "null"
	case bool:
		return fmt.Sprint(x)
	case stdjson.Number:
		return strings.Replace(string(x), "-0", "0", 1)
	case string:
		return wantQuote(x)
	case []any:
		out := ""
		for _, y := range x {
			out += "," + wantForm(y)
		}
		return "[" + strings.TrimPrefix(out, ",") + "]"
	case map[string]any:
		out := ""
		for _, name := range wantNames(v) {
			out += "," + wantQuote(name) + ":" + wantForm(x[name])
		}
		return "{" + strings.TrimPrefix(out, ",") + "}"
	}
	panic("no value")
}

func wantQuote(s string) string {
	out := `"`
	for _, c := range []byte(s) {
		switch {
		case c < 32:
			out += below[c]
		case c == '"':
			out += `\"`
		case c == '\\':
			out += `\\`
		default:
			out += string([]byte{c})
		}
	}
	return out + `"`
}

func wantNames(v any) []string {
	var names []string
	if x, ok := v.(map[string]any); ok {
		for name := range x {
			names = append(names, name)
		}
	}
	sort.Slice(names, func(i, j int) bool { return bytes.Compare([]byte(names[i]), []byte(names[j])) < 0 })
	return names
}

func wantKind(v any) int {
	switch v.(type) {
	case nil:
		return 1
	case bool:
		return 2
	case stdjson.Number:
		return 3
	case string:
		return 4
	case []any:
		return 5
	}
	return 6
}

// check holds each call of a text against the model.
func check(t *testing.T, s string) {
	t.Helper()
	fault := wantFault(s)
	if fault != api.OK {
		checkNothing(t, s, fault)
		return
	}
	v := tree(s)
	form := wantForm(v)
	if got, e := Form(s); got != form || e != api.OK {
		t.Fatalf("Form(%q): %q %d, want %q", s, got, e, form)
	}
	if again, e := Form(form); again != form || e != api.OK {
		t.Fatalf("Form of the form %q: %q %d", form, again, e)
	}
	if len(form) > len(s) {
		t.Fatalf("the form %q is longer than %q", form, s)
	}
	checkParts(t, s, v)
	checkParts(t, form, v)
}

// checkNothing holds each call of a text with a fault against nothing.
func checkNothing(t *testing.T, s string, fault api.Errno) {
	t.Helper()
	if got, e := Form(s); got != "" || e != fault {
		t.Fatalf("Form(%q): %q %d, want %d", s, got, e, fault)
	}
	if Kind(s) != 0 || Len(s) != 0 || len(Names(s)) != 0 {
		t.Fatalf("%q: Kind %d, Len %d, Names %q", s, Kind(s), Len(s), Names(s))
	}
	for _, name := range []string{"", "a"} {
		if f, ok := Field(s, name); f != "" || ok {
			t.Fatalf("Field(%q, %q): %q", s, name, f)
		}
	}
	for _, i := range []int{-1, 0, 1} {
		if f, ok := Item(s, i); f != "" || ok {
			t.Fatalf("Item(%q, %d): %q", s, i, f)
		}
	}
	if n, ok := Number(s); n != 0 || ok {
		t.Fatalf("Number(%q): %d", s, n)
	}
	if x, ok := Text(s); x != "" || ok {
		t.Fatalf("Text(%q): %q", s, x)
	}
}

func checkParts(t *testing.T, s string, v any) {
	t.Helper()
	list, _ := v.([]any)
	object, _ := v.(map[string]any)
	if Kind(s) != wantKind(v) || Len(s) != len(list)+len(object) || !slices.Equal(Names(s), wantNames(v)) {
		t.Fatalf("%q: Kind %d, Len %d, Names %q", s, Kind(s), Len(s), Names(s))
	}
	for _, name := range append(wantNames(v), "", "a", "no such name", "\xff") {
		x, there := object[name]
		checkOne(t, fmt.Sprintf("Field(%q, %q)", s, name), x, there, func() (string, bool) { return Field(s, name) })
	}
	for i := -2; i < len(list)+2; i++ {
		var x any
		there := 0 <= i && i < len(list)
		if there {
			x = list[i]
		}
		checkOne(t, fmt.Sprintf("Item(%q, %d)", s, i), x, there, func() (string, bool) { return Item(s, i) })
	}
	number, isNumber := v.(stdjson.Number)
	want, _ := strconv.Atoi(string(number))
	if n, ok := Number(s); n != want || ok != isNumber {
		t.Fatalf("Number(%q): %d %t", s, n, ok)
	}
	signs, isText := v.(string)
	if x, ok := Text(s); x != signs || ok != isText {
		t.Fatalf("Text(%q): %q %t", s, x, ok)
	}
}

func checkOne(t *testing.T, what string, v any, there bool, call func() (string, bool)) {
	t.Helper()
	want := ""
	if there {
		want = wantForm(v)
	}
	if got, ok := call(); got != want || ok != there {
		t.Fatalf("%s: %q %t, want %q %t", what, got, ok, want, there)
	}
}

// checkForm holds a text against a form that is written out, and then against the model.
func checkForm(t *testing.T, s, want string) {
	t.Helper()
	if got, e := Form(s); got != want || e != api.OK {
		t.Errorf("Form(%q): %q %d, want %q", s, got, e, want)
		return
	}
	check(t, s)
}

func checkFault(t *testing.T, s string, want api.Errno) {
	t.Helper()
	if got, e := Form(s); got != "" || e != want {
		t.Errorf("Form(%q): %q %d, want %d", s, got, e, want)
		return
	}
	checkNothing(t, s, want)
	if wantFault(s) != want {
		t.Errorf("%q: the model says %d", s, wantFault(s))
	}
}

func TestExamplesOfTheDocument(t *testing.T) {
	checkForm(t, `{"b":[1,-0],"a":"\u00e9\n"}`, `{"a":"é\n","b":[1,0]}`)
	checkFault(t, `{"a":1,"a":2}`, api.ErrThere)
	checkFault(t, `01`, api.ErrForm)
}

func TestFormOfEachKind(t *testing.T) {
	for _, c := range []struct{ s, want string }{
		{`null`, `null`}, {`false`, `false`}, {`true`, `true`},
		{`0`, `0`}, {`-0`, `0`}, {`7`, `7`}, {`-7`, `-7`}, {`10`, `10`}, {`-100`, `-100`},
		{`""`, `""`}, {`"a"`, `"a"`}, {`"null"`, `"null"`}, {`"0"`, `"0"`}, {`"[]"`, `"[]"`}, {`" "`, `" "`},
		{`[]`, `[]`}, {`{}`, `{}`}, {`[[]]`, `[[]]`}, {`[{}]`, `[{}]`}, {`{"":{}}`, `{"":{}}`}, {`{"a":[]}`, `{"a":[]}`},
		{`[null,false,true,-0,12,"x",[],{}]`, `[null,false,true,0,12,"x",[],{}]`},
		{`[3,2,1]`, `[3,2,1]`}, {`["b","a","b"]`, `["b","a","b"]`}, {`[[1],[1]]`, `[[1],[1]]`},
		{`{"h":{},"g":[],"f":"x","e":12,"d":-0,"c":true,"b":false,"a":null}`, `{"a":null,"b":false,"c":true,"d":0,"e":12,"f":"x","g":[],"h":{}}`},
		{`{"b":1,"a":{"d":[{"z":0,"y":1}],"c":2}}`, `{"a":{"c":2,"d":[{"y":1,"z":0}]},"b":1}`},
		{`{"a":1,"":2}`, `{"":2,"a":1}`}, {`{"ab":1,"a":2,"b":3}`, `{"a":2,"ab":1,"b":3}`}, {`{"a":1,"B":2}`, `{"B":2,"a":1}`}, {`{"10":1,"9":2}`, `{"10":1,"9":2}`},
		{`[-0,[-0],{"a":-0}]`, `[0,[0],{"a":0}]`}, {`{"-0":"-0"}`, `{"-0":"-0"}`},
	} {
		checkForm(t, c.s, c.want)
	}
}

// Members stand by the bytes of their names as they are undone, not by how they are written.
func TestOrderOfMembers(t *testing.T) {
	for _, c := range []struct{ s, want string }{
		{`{" ":1,"\n":2}`, `{"\n":2," ":1}`},
		{`{"!":1,"\"":2,"#":3}`, `{"!":1,"\"":2,"#":3}`},
		{`{"[":1,"\\":2,"]":3,"Z":4}`, `{"Z":4,"[":1,"\\":2,"]":3}`},
		{`{"\u007a":1,"b":2}`, `{"b":2,"z":1}`},
		{`{"\t":1,"\u0008":2,"\u000b":3,"\n":4,"\u0000":5,"\u001f":6}`, `{"\u0000":5,"\b":2,"\t":1,"\n":4,"\u000b":3,"\u001f":6}`},
		{`{"é":1,"z":2,"~":3}`, `{"z":2,"~":3,"é":1}`},
		{`{"\ud800\udc00":1,"\uffff":2,"\ue000":3}`, "{\"\ue000\":3,\"\uffff\":2,\"\U00010000\":1}"},
		{`{"a\u0000":1,"a":2,"a!":3}`, `{"a":2,"a\u0000":1,"a!":3}`},
	} {
		checkForm(t, c.s, c.want)
	}
}

// A text as its parts, between which blanks may stand.
var parted = [][]string{
	{`null`}, {`false`}, {`-12`}, {`"a b"`}, {`[`, `]`}, {`{`, `}`},
	{`[`, `1`, `,`, `[`, `]`, `,`, `{`, `}`, `]`},
	{`{`, `"b"`, `:`, `[`, `1`, `,`, `"x"`, `]`, `,`, `"a"`, `:`, `{`, `"c"`, `:`, `true`, `,`, `"d"`, `:`, `null`, `}`, `}`},
}

func TestBlanks(t *testing.T) {
	for _, parts := range parted {
		want, _ := Form(strings.Join(parts, ""))
		for _, blank := range []string{" ", "\t", "\n", "\r", " \t\n\r", "\r\n", strings.Repeat(" ", 15)} {
			checkForm(t, blank+strings.Join(parts, blank)+blank, want)
			for i := range len(parts) + 1 {
				checkForm(t, strings.Join(parts[:i], "")+blank+strings.Join(parts[i:], ""), want)
			}
		}
	}
}

func TestWhatIsNoBlank(t *testing.T) {
	for _, parts := range parted {
		for _, wrong := range []string{"\x00", "\v", "\f", "\b", "\x1f", "\x7f", "\u0085", "\u00a0", "\u2028", "\ufeff", "\u3000", "\xff", "\\n", "/**/", "//\n", ";", "\\u0020"} {
			for i := range len(parts) + 1 {
				checkFault(t, strings.Join(parts[:i], "")+wrong+strings.Join(parts[i:], ""), api.ErrForm)
			}
		}
	}
}

func TestBlanksWithinParts(t *testing.T) {
	for _, s := range []string{`nu ll`, `n ull`, `tru e`, `fals e`, `- 1`, `1 2`, `- 0`, `0 0`, `[- 1]`, `{"a":1 2}`, `"\ n"`, `"\u 0041"`, `"\u004 1"`, `"\ud83d \ude00"`} {
		checkFault(t, s, api.ErrForm)
	}
	checkForm(t, `" a  b "`, `" a  b "`)
	checkForm(t, `{" a ":" "}`, `{" a ":" "}`)
}

func TestEscapes(t *testing.T) {
	for _, c := range []struct{ s, text, form string }{
		{`"\""`, "\"", `"\""`}, {`"\\"`, "\\", `"\\"`}, {`"\/"`, "/", `"/"`}, {`"/"`, "/", `"/"`},
		{`"\b"`, "\x08", `"\b"`}, {`"\f"`, "\x0c", `"\f"`}, {`"\n"`, "\x0a", `"\n"`}, {`"\r"`, "\x0d", `"\r"`}, {`"\t"`, "\x09", `"\t"`},
		{`"\u0022"`, "\"", `"\""`}, {`"\u005c"`, "\\", `"\\"`}, {`"\u005C"`, "\\", `"\\"`}, {`"\u002f"`, "/", `"/"`},
		{`"\u0008\u0009\u000a\u000b\u000c\u000d"`, "\x08\x09\x0a\x0b\x0c\x0d", `"\b\t\n\u000b\f\r"`},
		{`"\u0041\u00e9\u20ac\ud83d\ude00"`, "Aé€\U0001F600", `"Aé€` + "\U0001F600" + `"`}, {`"Aé€` + "\U0001F600" + `"`, "Aé€\U0001F600", `"Aé€` + "\U0001F600" + `"`},
		{`"\\u0041"`, `\u0041`, `"\\u0041"`}, {`"\\\u0041"`, `\A`, `"\\A"`}, {`"\\\\"`, `\\`, `"\\\\"`}, {`"\\n"`, `\n`, `"\\n"`},
		{`"\u00410"`, "A0", `"A0"`}, {`"\u0041F"`, "AF", `"AF"`}, {`"\u0000"`, "\x00", `"\u0000"`}, {`"x\u0000y"`, "x\x00y", `"x\u0000y"`},
		{`"\uabcd\uABCD\uAbCd"`, "\uabcd\uabcd\uabcd", "\"\uabcd\uabcd\uabcd\""}, {`"\uD83D\uDE00\ud83D\uDe00"`, "\U0001F600\U0001F600", "\"\U0001F600\U0001F600\""},
		{`"\ud83d\ude00\ud83d\ude00x"`, "\U0001F600\U0001F600x", "\"\U0001F600\U0001F600x\""},
	} {
		checkForm(t, c.s, c.form)
		if got, ok := Text(c.s); got != c.text || !ok {
			t.Errorf("Text(%s): %q", c.s, got)
		}
		checkForm(t, `[`+c.s+`,{`+c.s+`:`+c.s+`}]`, `[`+c.form+`,{`+c.form+`:`+c.form+`}]`)
	}
}

// Each byte behind a \, in the middle and at the end.
func TestEachByteBehindABackslash(t *testing.T) {
	for b := range 256 {
		c := string([]byte{byte(b)})
		right := strings.Contains(`"\/bfnrt`, c)
		if _, e := Form(`"\` + c + `x"`); (e == api.OK) != right {
			t.Errorf("%q: %d", c, e)
		}
		check(t, `"\`+c+`"`)
		check(t, `"\`+c)
		check(t, `["\`+c+`","\`+c+`x",{"\`+c+`y":1}]`)
	}
}

// Each byte at each place of four digits.
func TestEachByteAsADigit(t *testing.T) {
	for b := range 256 {
		c := string([]byte{byte(b)})
		right := strings.Contains("0123456789abcdefABCDEF", c)
		for i := range 4 {
			s := `"\u` + "0000"[:i] + c + "0000"[i+1:] + `"`
			if _, e := Form(s); (e == api.OK) != right {
				t.Errorf("%q: %d", s, e)
			}
			check(t, s)
			check(t, `"\ud83d\u`+"de00"[:i]+c+"de00"[i+1:]+`"`)
			check(t, `"\u`+"d83d"[:i]+c+"d83d"[i+1:]+`\ude00"`)
		}
	}
	for n := range 4 {
		checkFault(t, `"\u`+"0041"[:n], api.ErrForm)
		checkFault(t, `"\u`+"0041"[:n]+`"`, api.ErrForm)
		checkFault(t, `"\u`+"0041"[:n]+`g"`, api.ErrForm)
		checkFault(t, `"\ud83d\u`+"de00"[:n]+`"`, api.ErrForm)
	}
}

func hex4(n int) string {
	return fmt.Sprintf("%04x", n)
}

// byU is a code point by \u, as the document tells it.
func byU(r rune) string {
	if r < 0x10000 {
		return `\u` + hex4(int(r))
	}
	n := int(r) - 0x10000
	return `\u` + hex4(0xD800+n/1024) + `\u` + hex4(0xDC00+n%1024)
}

func isHalf(r rune) bool {
	return 0xD800 <= r && r <= 0xDFFF
}

// Each code point up to U+FFFF, and many further ones: as bytes, and by \u.
func TestEachCodePoint(t *testing.T) {
	step := rune(1)
	for r := rune(0); r <= 0x10FFFF; r += step {
		if isHalf(r) {
			continue
		}
		signs := string([]rune{r})
		want := wantQuote(signs)
		if got, e := Form(`"` + byU(r) + `"`); got != want || e != api.OK {
			t.Fatalf("U+%04X by u: %q %d", r, got, e)
		}
		if got, e := Form(`"` + strings.ToUpper(byU(r)[2:3]) + byU(r) + `"`); e != api.OK || !strings.HasSuffix(got, want[1:]) {
			t.Fatalf("U+%04X behind a digit: %q %d", r, got, e)
		}
		if got, ok := Quote(signs); got != want || !ok {
			t.Fatalf("Quote of U+%04X: %q", r, got)
		}
		if got, ok := Text(want); got != signs || !ok {
			t.Fatalf("Text of U+%04X: %q", r, got)
		}
		bare := r >= 32 && r != '"' && r != '\\'
		if got, e := Form(`"` + signs + `"`); bare && (got != want || e != api.OK) || !bare && e != api.ErrForm {
			t.Fatalf("U+%04X as bytes: %q %d", r, got, e)
		}
		if r > 0xFFFF {
			step = 37
		}
	}
}

func TestEdgesOfCodePoints(t *testing.T) {
	for _, r := range []rune{0, 1, 8, 0x1F, 0x20, 0x22, 0x2F, 0x5C, 0x7E, 0x7F, 0x80, 0x7FF, 0x800, 0x2028, 0xD7FF, 0xE000, 0xFFFD, 0xFFFE, 0xFFFF, 0x10000, 0x103FF, 0x10400, 0xFFFFF, 0x10FFFE, 0x10FFFF} {
		signs := string([]rune{r})
		for _, s := range []string{byU(r), strings.ToUpper(byU(r)), signs, byU(r) + "x", signs + "x", "x" + byU(r), "x" + signs} {
			s = strings.ReplaceAll(s, `\U`, `\u`)
			check(t, `"`+s+`"`)
			check(t, `{"`+s+`":["`+s+`"]}`)
			check(t, s)
		}
	}
	for _, s := range []string{"\x1f", "\x00", "\n", "\t", "\r", "\x7f\x1f"} {
		checkFault(t, `"`+s+`"`, api.ErrForm)
		checkFault(t, `{"`+s+`":1}`, api.ErrForm)
	}
	checkForm(t, `"\u001f\u0020\u007f"`, "\"\\u001f \x7f\"")
	checkForm(t, "\"\x7f\ud7ff\ue000\ufffd\uffff\U00010000\U0010ffff\"", "\"\x7f\ud7ff\ue000\ufffd\uffff\U00010000\U0010ffff\"")
	checkForm(t, `"\ud7ff\ue000\uffff\ud800\udc00\udbff\udfff"`, "\"\ud7ff\ue000\uffff\U00010000\U0010ffff\"")
}

// Each first half with some second ones, and each second half with some first ones.
func TestPairs(t *testing.T) {
	edges := []int{0xD7FF, 0xD800, 0xD801, 0xDBFE, 0xDBFF, 0xDC00, 0xDC01, 0xDFFE, 0xDFFF, 0xE000, 0x0041, 0x5C00}
	try := func(high, low int) {
		s := `"\u` + hex4(high) + `\u` + hex4(low) + `"`
		isHigh, isLow := 0xD800 <= high && high <= 0xDBFF, 0xDC00 <= low && low <= 0xDFFF
		got, ok := Text(s)
		switch {
		case isHigh && isLow:
			want := string([]rune{rune(0x10000 + (high-0xD800)*1024 + low - 0xDC00)})
			if got != want || !ok {
				t.Fatalf("%s: %q %t, want %q", s, got, ok, want)
			}
		case isHalf(rune(high)) || isHalf(rune(low)):
			checkFault(t, s, api.ErrForm)
		case !ok:
			t.Fatalf("%s: %q %t", s, got, ok)
		}
	}
	for half := 0xD7F0; half <= 0xE010; half++ {
		for _, other := range edges {
			try(half, other)
			try(other, half)
		}
	}
}

func TestHalvesAlone(t *testing.T) {
	for _, half := range []string{`\ud800`, `\udbff`, `\uDBFF`, `\udc00`, `\udfff`, `\uDFFF`, `\ud83d`, `\ude00`} {
		for _, s := range []string{half, half + "x", "x" + half, half + `\n`, half + `\\`, half + `\"`, half + `\u0041`, half + `\ud7ff`, half + `\ue000`, half + " ", half + "é", `\u0041` + half, half + half} {
			checkFault(t, `"`+s+`"`, api.ErrForm)
			checkFault(t, `{"`+s+`":1}`, api.ErrForm)
			checkFault(t, `["`+s, api.ErrForm)
		}
	}
	for _, s := range []string{`\ude00\ud83d`, `\ud83dx\ude00`, `\ud83d\n\ude00`, `\ud83d\\ude00`, `\ud83d\\\ude00`, `\ud83d\u0041\ude00`, `\ud83d` + "\xed\xb8\x80", `\ud83dude00`, `\ud83d\ude00\ude00`, `\ud83d\ud83d\ude00`, `\ud83d\ude0`, `\ud83d\ude`, `\ud83d\u`, `\ud83d\`, `\ud83d\Ude00`, "\xed\xa0\xbd" + `\ude00`, "\xed\xa0\xbd\xed\xb8\x80"} {
		checkFault(t, `"`+s+`"`, api.ErrForm)
		checkFault(t, `"`+s, api.ErrForm)
	}
}

// wrongBytes are no right UTF-8.
var wrongBytes = []string{
	"\x80", "\xbf", "\xff", "\xfe", "\xc3", "\xe2", "\xe2\x82", "\xf0", "\xf0\x9f", "\xf0\x9f\x94", "\xc0\x80", "\xc0\xa0", "\xc1\xbf", "\xe0\x80\x80", "\xe0\x9f\xbf", "\xf0\x80\x80\x80", "\xf0\x8f\xbf\xbf",
	"\xed\xa0\x80", "\xed\xaf\xbf", "\xed\xb0\x80", "\xed\xbf\xbf", "\xf4\x90\x80\x80", "\xf5\x80\x80\x80", "\xf8\x88\x80\x80\x80", "\xfc\x84\x80\x80\x80\x80", "\xc3\xc3", "\xef\xbf", "\xef\xbf\xbd\xbd", "\xffx", "é\xa9", "\xc0\xa2", "\xe2\"\x82",
}

func TestWrongBytes(t *testing.T) {
	for _, wrong := range wrongBytes {
		for _, s := range []string{wrong, `"` + wrong + `"`, `"` + wrong, `"a` + wrong + `b"`, `"é` + wrong + `é"`, `"\n` + wrong + `\n"`, "\"\ufffd" + wrong + "\ufffd\"", "\"" + wrong + "\ufffd\"", `{"` + wrong + `":1}`, `{"a":"` + wrong + `"}`, `["` + wrong + `"]`, `[` + wrong + `]`, `1` + wrong, `null` + wrong} {
			checkFault(t, s, api.ErrForm)
		}
		for _, s := range []string{wrong, "a" + wrong, wrong + "b", "\ufffd" + wrong, wrong + "\ufffd"} {
			if q, ok := Quote(s); q != "" || ok {
				t.Errorf("Quote(%q): %q", s, q)
			}
		}
	}
	checkForm(t, "\"\ufffd\"", "\"\ufffd\"")
	checkForm(t, "\"\\ufffd\ufffd\ufffd\"", "\"\ufffd\ufffd\ufffd\"")
}

func TestNumbers(t *testing.T) {
	for _, c := range []struct {
		s string
		n int
	}{
		{"0", 0}, {"-0", 0}, {"1", 1}, {"-1", -1}, {"9", 9}, {"10", 10}, {"-10", -10}, {" 12 ", 12}, {"1073741824", 1 << 30}, {"4294967297", 1<<32 + 1}, {"1099511627777", 1<<40 + 1},
		{"99999999999999", 99999999999999}, {"-99999999999999", -99999999999999}, {"100000000000000", 100000000000000}, {"999999999999999", 999999999999999}, {"-999999999999999", -999999999999999}, {"-100000000000000", -100000000000000}, {"123456789012345", 123456789012345},
	} {
		if n, ok := Number(c.s); n != c.n || !ok {
			t.Errorf("Number(%q): %d %t", c.s, n, ok)
		}
		checkForm(t, c.s, strconv.Itoa(c.n))
		checkForm(t, "["+c.s+","+c.s+"]", "["+strconv.Itoa(c.n)+","+strconv.Itoa(c.n)+"]")
	}
	for _, s := range []string{
		"1000000000000000", "-1000000000000000", "9999999999999999", "1234567890123456", "18446744073709551617", strings.Repeat("9", 300), "-" + strings.Repeat("1", 299), "0000000000000001", "000000000000000", strings.Repeat("0", 300),
		"01", "00", "-01", "-00", "0-", "-", "--1", "--", "+", "+1", "+0", "-+1", "1-", "1+", "1-1", "1.0", "1.5", "1.", ".5", "0.0", "-.5", "1e3", "1E3", "1e+3", "0e0", "1e", "e1", "0x1", "0X1", "0b1", "0o7", "1_0", "1,0", "1 0", "1a", "a1", "NaN", "Infinity", "-Infinity", "inf", "١", "１", "²",
	} {
		checkFault(t, s, api.ErrForm)
		checkFault(t, "["+s+"x]", api.ErrForm)
		checkFault(t, `{"a":`+s+"x}", api.ErrForm)
	}
}

func TestWrongTexts(t *testing.T) {
	for _, s := range []string{
		"", " ", "\t\n\r ", strings.Repeat(" ", 400), "x", "\x00", "?", "-x", "'a'", "`a`",
		"1 1", "null null", "nullnull", "true false", "[] []", "[][]", "{} {}", "{}{}", `"" ""`, `""""`, `"a""b"`, "1 []", "[]1", "{}1", `""1`, `1""`, "1,1", "1,", ",1", ",", ":", "1:", "]", "}", "[]]", "{}}", "][", "}{",
		"n", "nu", "nul", "nulll", "nUll", "Null", "NULL", "nil", "none", "t", "tr", "tru", "truee", "True", "TRUE", "tRue", "f", "fa", "fal", "fals", "falsee", "False", "FALSE", "nulL", "truE", "falsE", "ull", "rue", "alse", "undefined",
		"[", "[1", "[1,", "[1,]", "[,]", "[,1]", "[1,,2]", "[1 2]", "[1:2]", "[1}", "[}", "[1;2]", "[[]", "[[],", "[]]", "[{]}", "[{}", "[1]]", "[null", "[nul]", `["a]`, `["a"`, `["a",`, "[\"a\":1]", "[null,true,]", "[01]", "[-]", "(1)", "[1,\x002]",
		"{", `{"a"`, `{"a":`, `{"a":1`, `{"a":1,`, `{"a":1,}`, `{,}`, `{,"a":1}`, `{"a"}`, `{"a",1}`, `{"a" 1}`, `{"a":}`, `{"a"::1}`, `{:1}`, `{"a":1 "b":2}`, `{"a":1,,"b":2}`, `{"a":1;"b":2}`, `{"a":1]`, `{]`, `{a:1}`, `{1:1}`, `{null:1}`, `{[]:1}`, `{{}:1}`, `{"a":1:2}`, `{"a":1}}`, `{"a":1,"b"}`, `{"a":1,"b":}`, `{"a":1,"b`, `{"a":1,1}`, `{"a":{"b":1}`, `{"a":[}`, `{"a":[1}]`, `{'a':1}`, `{"a"=1}`, `{"a":x}`, `{"a":1, }`, `{ ,}`,
		`"`, `"a`, `"\`, `"\"`, `"\\\"`, `"\u`, `a"`, `"a\"`, `"a'`, `\"a"`, `\u0022a"`, `"a"b`, "\"a\nb\"", "\"\t\"", "\"\x00\"", "\"\x1f\"", `"\x"`, `"\0"`, `"\a"`, `"\v"`, `"\'"`, `"\u{41}"`, `"\U0041"`, `"\N"`, `"\B"`, `"\ "`, "\"\\\n\"", `"\x41"`, `"\é"`,
		"/*a*/1", "1//a", "#1", "\ufeff1", "1\x00", "\x001", "1\ufeff", "1\u00a0",
	} {
		checkFault(t, s, api.ErrForm)
	}
}

// nested has so many open, by what the pattern says in turn, and then that value.
func nested(pattern string, depth int, value string) (open, whole string) {
	end := ""
	for i := range depth {
		if pattern[i%len(pattern)] == '[' {
			open, end = open+"[", "]"+end
		} else {
			open, end = open+`{"a":`, "}"+end
		}
	}
	return open, open + value + end
}

func TestDepth(t *testing.T) {
	for _, pattern := range []string{"[", "{", "[{", "{[", "[[{", "{{["} {
		for _, value := range []string{"1", "null", `"a"`, `"[{[{[{[{[{"`, "[]", "{}"} {
			for depth := range 12 {
				_, whole := nested(pattern, depth, value)
				if value == "[]" || value == "{}" {
					depth++
				}
				if depth > mostDepth {
					checkFault(t, whole, api.ErrOver)
				} else {
					checkForm(t, whole, whole)
				}
			}
		}
		eight, whole := nested(pattern, mostDepth, "1")
		for _, next := range []string{"[", "{", "[]", "{}", "[x", "{x", "[\xff", " [", "\n{", "[[", "{{", `[1]`, `{"a":1}`} {
			checkFault(t, eight+next, api.ErrOver)
			check(t, eight+"1,"+next)
		}
		for _, next := range []string{"", "x", "]x", "1[", "null{", `"a"[`, "1 [", "}}", ",[", ":["} {
			check(t, eight+next)
		}
		checkForm(t, whole, whole)
	}
	// What was shut isn't open any more.
	checkForm(t, "[[],[],[],[],[],[],[],[],[],[]]", "[[],[],[],[],[],[],[],[],[],[]]")
	checkForm(t, "[{},{},{},{},{},{},{},{},{},{}]", "[{},{},{},{},{},{},{},{},{},{}]")
	checkForm(t, "[[[[[[[[],[]],[[]]]]]]],[[[[[[[]]]]]]]]", "[[[[[[[[],[]],[[]]]]]]],[[[[[[[]]]]]]]]")
	checkFault(t, "[[[[[[[[],[]],[[[]]]]]]]],[[[[[[[[]]]]]]]]]", api.ErrOver)
	checkFault(t, strings.Repeat("[", 400), api.ErrOver)
	checkFault(t, strings.Repeat("{", 400), api.ErrForm)
	checkForm(t, `"`+strings.Repeat("[", 398)+`"`, `"`+strings.Repeat("[", 398)+`"`)
}

func TestLengths(t *testing.T) {
	of := func(n int) []string {
		return []string{
			strings.Repeat(" ", n-1) + "1", "1" + strings.Repeat("\n", n-1), `"` + strings.Repeat("a", n-2) + `"`, `["` + strings.Repeat("x", n-4) + `"]`, `{"` + strings.Repeat("x", n-6) + `":1}`,
			`"` + strings.Repeat("a", n%2) + strings.Repeat("é", (n-2-n%2)/2) + `"`, `"` + strings.Repeat("a", n%2) + strings.Repeat(`\"`, (n-2-n%2)/2) + `"`,
			"[1" + strings.Repeat(" ", n%2) + strings.Repeat(",2", (n-3-n%2)/2) + strings.Repeat(" ", (n-3-n%2)%2) + "]",
		}
	}
	for _, n := range []int{20, 399, 400} {
		for _, s := range of(n) {
			if len(s) != n {
				t.Fatalf("%q has %d bytes", s, len(s))
			}
			if _, e := Form(s); e != api.OK {
				t.Errorf("%d bytes, %q: %d", n, s, e)
			}
			check(t, s)
		}
	}
	for _, n := range []int{401, 402, 500, 4000} {
		for _, s := range of(n) {
			checkFault(t, s, api.ErrLong)
		}
	}
	checkFault(t, strings.Repeat("x", 400), api.ErrForm)
	for _, s := range []string{
		strings.Repeat("x", 401), strings.Repeat("[", 401), strings.Repeat(" ", 401), strings.Repeat("\x00", 401), strings.Repeat("\xff", 401), "01" + strings.Repeat(" ", 399), strings.Repeat(" ", 400) + "x", `{"a":1,"a":2` + strings.Repeat(" ", 400), `"` + strings.Repeat("a", 400), strings.Repeat("[]", 1<<19), strings.Repeat("9", 1<<20),
	} {
		checkFault(t, s, api.ErrLong)
	}
}

func TestNamesThatAreThere(t *testing.T) {
	for _, s := range []string{
		`{"a":1,"a":1}`, `{"":1,"":2}`, `{"a":1,"b":2,"a":3}`, `{"b":1,"a":2,"a":3}`, `{"a":1,"b":2,"c":3,"b":4}`, `{ "a" : 1 , "a" : 2 }`, `{"é":1,"é":2}`,
		`{"a":1,"\u0061":2}`, `{"\u0061":1,"a":2}`, `{"\u0061":1,"\u0061":2}`, `{"/":1,"\/":2}`, `{"\/":1,"\u002f":2}`, `{"\u002F":1,"\u002f":2}`, `{"\n":1,"\u000a":2}`, `{"\"":1,"\u0022":2}`, `{"\\":1,"\u005c":2}`, `{"é":1,"\u00e9":2}`, "{\"\U0001F600\":1,\"\\ud83d\\ude00\":2}",
		`[{"a":1,"a":2}]`, `{"a":{"b":1,"b":2}}`, `{"a":1,"b":{"a":1,"c":[{"d":1,"d":2}]}}`, `[{"a":1},{"a":1,"a":2}]`, `{"a":{"b":1},"a":2}`, `{"a":{"a":{"a":1}},"a":1}`,
		`{"a":1,"a"`, `{"a":1,"a"}`, `{"a":1,"a"x`, `{"a":1,"a":`, `{"a":1,"a":x`, `{"a":1,"a" x`, `{"a":1,"a":2`, `{"a":1,"a""`, `{"a":1,"a","a`, "{\"a\":1,\"a\"\xff", `{"a":1,"a":[[[[[[[[[`,
	} {
		checkFault(t, s, api.ErrThere)
	}
	for _, s := range []string{`{"a":1,"a`, `{"a":1,"a\`, `{"a":1,"a\u0061`, `{"a":1,a"`, `{"a":1,"\ud800"`, "{\"a\":1,\"a\xff\"", "{\"a\":1,\"a\n\"", `{"a":1,,"a":2}`, `{"a":x,"a":2}`, `{"a":1 "a":2}`, `{"a":"a""a"`, `{"a" "a"`} {
		checkFault(t, s, api.ErrForm)
	}
	for _, s := range []string{
		`{"a":1,"A":2}`, `{"a":1,"a ":2," a":3,"":4}`, `{"a":1,"\\u0061":2}`, `{"a":"a","b":"a"}`, `{"a":{"a":{"a":1}}}`, `[{"a":1},{"a":1}]`, `{"a":{"c":1},"b":{"c":1}}`, `{"a":[{"a":1},{"a":2}],"b":{"a":1,"b":{"a":1,"b":2}}}`, `{"n":1,"\n":2,"\\n":3}`, `["a","a",{"a":["a","a"]}]`, `{"e\u0301":1,"\u00e9":2}`, `{"a":1,"а":2}`,
	} {
		if _, e := Form(s); e != api.OK {
			t.Errorf("%q: %d", s, e)
		}
		check(t, s)
	}
}

// Of two faults the first from the left counts.
func TestFirstFaultCounts(t *testing.T) {
	deep := "[[[[[[[["
	for _, c := range []struct {
		s    string
		want api.Errno
	}{
		{deep + `[x`, api.ErrOver}, {deep + `x[`, api.ErrForm}, {deep + `{"a":1,"a"`, api.ErrOver}, {deep + "\"\xff\"[", api.ErrForm}, {deep + "[\"\xff\"", api.ErrOver},
		{"[[[[[[[" + `{"a":1,"a":[`, api.ErrThere}, {"[[[[[[[" + `{"a":[,"a":1`, api.ErrOver}, {"[[[[[[[" + `{"a":1,"a` + "\xff", api.ErrForm}, {"[[[[[[[" + `{"a":1,"a"[`, api.ErrThere}, {"[[[[[[[" + `{[`, api.ErrForm}, {"[[[[[[[" + `{"a"[`, api.ErrForm}, {"[[[[[[[" + `{"a":1[`, api.ErrForm}, {"[[[[[[[" + `{"a":{`, api.ErrOver},
		{`{"a":1,"a":01}`, api.ErrThere}, {`{"a":01,"a":1}`, api.ErrForm}, {`{"a":1,"a":2,}`, api.ErrThere}, {`{"a":1,,"a":2}`, api.ErrForm}, {`{"a":1,"a":"` + "\n" + `"}`, api.ErrThere}, {`{"a":"` + "\n" + `","a":1}`, api.ErrForm}, {`{"a":1,"a":2`, api.ErrThere}, {`{"a":1,"a":2}}`, api.ErrThere}, {`{"a":1}{"a":1,"a":2}`, api.ErrForm}, {`[{"a":1,"a":2}`, api.ErrThere},
		{`{"a":[[[[[[[[[]]]]]]]],"a":1}`, api.ErrOver}, {`{"a":1,"a":[[[[[[[[[]]]]]]]]}`, api.ErrThere}, {`x` + deep + `[`, api.ErrForm}, {deep + `[` + deep, api.ErrOver}, {deep + `]]]]]]]]` + deep + `[`, api.ErrForm}, {deep + `]]]]]]]` + `,` + deep + `[`, api.ErrOver},
		{`1 ` + deep + `[`, api.ErrForm}, {`"\ud800` + deep + `["`, api.ErrForm}, {`{"a":{"b":1,"b":2},"a":x}`, api.ErrThere}, {`{"a":{"b":x,"b":2},"a":1}`, api.ErrForm},
	} {
		checkFault(t, c.s, c.want)
		checkFault(t, " \n"+c.s, c.want)
		check(t, c.s+strings.Repeat(" ", 400-len(c.s)))
		checkFault(t, c.s+strings.Repeat(" ", 401-len(c.s)), api.ErrLong)
	}
}

func TestParts(t *testing.T) {
	for _, c := range []struct {
		s         string
		kind, len int
		names     []string
	}{
		{"null", 1, 0, nil}, {" null ", 1, 0, nil}, {"false", 2, 0, nil}, {"true", 2, 0, nil}, {"0", 3, 0, nil}, {"-0", 3, 0, nil}, {"-12", 3, 0, nil}, {`""`, 4, 0, nil}, {`"abc"`, 4, 0, nil}, {`"[1,2]"`, 4, 0, nil},
		{"[]", 5, 0, nil}, {"[ ]", 5, 0, nil}, {"[1]", 5, 1, nil}, {"[1,1]", 5, 2, nil}, {"[[1,2,3]]", 5, 1, nil}, {`[{"a":1,"b":2}]`, 5, 1, nil},
		{"{}", 6, 0, nil}, {"{ }", 6, 0, nil}, {`{"":0}`, 6, 1, []string{""}}, {`{"b":1,"a":{"c":2,"d":3}}`, 6, 2, []string{"a", "b"}}, {`{"b\n":1,"\u0061":2,"\ud83d\ude00":3,"\"":4}`, 6, 4, []string{"\"", "a", "b\n", "\U0001F600"}},
		{"", 0, 0, nil}, {"x", 0, 0, nil}, {"[1,2", 0, 0, nil}, {`{"a":1,"a":2}`, 0, 0, nil}, {"[[[[[[[[[]]]]]]]]]", 0, 0, nil}, {"[1]" + strings.Repeat(" ", 398), 0, 0, nil}, {"01", 0, 0, nil}, {`"\ud800"`, 0, 0, nil},
	} {
		if Kind(c.s) != c.kind || Len(c.s) != c.len || !slices.Equal(Names(c.s), c.names) {
			t.Errorf("%q: Kind %d, Len %d, Names %q", c.s, Kind(c.s), Len(c.s), Names(c.s))
		}
		check(t, c.s)
	}
	check(t, "["+strings.Repeat("0,", 198)+"0]")
	if n := Len("[" + strings.Repeat("0,", 198) + "0]"); n != 199 {
		t.Errorf("Len: %d", n)
	}
}

func TestField(t *testing.T) {
	const s = `{"b\n":[ 1 ],"\u0061":{"d": 1,"c":-0},"":null,"é":"\u00e9","x":"\/","n":-0}`
	for _, c := range []struct {
		name, want string
		ok         bool
	}{
		{"b\n", "[1]", true}, {"a", `{"c":0,"d":1}`, true}, {"", "null", true}, {"é", `"é"`, true}, {"x", `"/"`, true}, {"n", "0", true},
		{`b\n`, "", false}, {`\u0061`, "", false}, {`"a"`, "", false}, {"c", "", false}, {"d", "", false}, {"A", "", false}, {"a ", "", false}, {"b", "", false}, {"\xc3", "", false}, {"\xff", "", false}, {"\x00", "", false}, {strings.Repeat("a", 1000), "", false},
	} {
		if got, ok := Field(s, c.name); got != c.want || ok != c.ok {
			t.Errorf("Field of %q: %q %t", c.name, got, ok)
		}
	}
	for _, s := range []string{"null", "true", "1", `"a"`, `["a"]`, `[{"a":1}]`, "[]", "{}", `{"b":{"a":1}}`, "", `{"a":1`, `{"a":1,"a":1}`, `{"a":1}x`, `{"a":1}` + strings.Repeat(" ", 394)} {
		if got, ok := Field(s, "a"); got != "" || ok {
			t.Errorf("Field(%q): %q", s, got)
		}
	}
	// A name may be all that a text has room for.
	name := strings.Repeat("n", 394)
	if got, ok := Field(`{"`+name+`":1}`, name); got != "1" || !ok {
		t.Errorf("Field of a long name: %q %t", got, ok)
	}
	for _, r := range []rune{0xFFFD, 0x10FFFF, 0x1F} {
		if got, ok := Field(`{"`+byU(r)+`":1}`, string([]rune{r})); got != "1" || !ok {
			t.Errorf("Field of U+%04X: %q %t", r, got, ok)
		}
	}
}

func TestItem(t *testing.T) {
	const s = ` [null, false , -0,"\/" ,[ 1 ,2],{"b":1,"a":2}] `
	for i, want := range []string{"null", "false", "0", `"/"`, "[1,2]", `{"a":2,"b":1}`} {
		if got, ok := Item(s, i); got != want || !ok {
			t.Errorf("Item %d: %q %t", i, got, ok)
		}
	}
	for _, i := range farInts {
		if got, ok := Item(s, i); ok != (0 <= i && i < 6) || !ok && got != "" {
			t.Errorf("Item %d: %q %t", i, got, ok)
		}
		for _, none := range []string{"[]", "{}", "null", "1", `"abc"`, "true", `{"0":1,"1":2}`, "", "[1,2", "[1,2]x", "[1,2]" + strings.Repeat(" ", 396)} {
			if got, ok := Item(none, i); got != "" || ok {
				t.Errorf("Item(%q, %d): %q", none, i, got)
			}
		}
	}
}

func TestNumberAndTextOfOthers(t *testing.T) {
	for _, s := range []string{"null", "true", "false", "[]", "[1]", `["a"]`, "{}", `{"a":1}`, "", "x", "1.0", "1e1", "01", "1 1", "[1", `"a`, `"a"b`, "1" + strings.Repeat(" ", 400), `"a"` + strings.Repeat(" ", 398)} {
		if n, ok := Number(s); n != 0 || ok {
			t.Errorf("Number(%q): %d %t", s, n, ok)
		}
		if x, ok := Text(s); x != "" || ok {
			t.Errorf("Text(%q): %q %t", s, x, ok)
		}
	}
	if n, ok := Number(`"7"`); n != 0 || ok {
		t.Errorf("Number of a string: %d %t", n, ok)
	}
	if x, ok := Text("7"); x != "" || ok {
		t.Errorf("Text of a number: %q %t", x, ok)
	}
	if x, ok := Text(" \"\" "); x != "" || !ok {
		t.Errorf("Text of an empty string: %q %t", x, ok)
	}
	if x, ok := Text(`"` + strings.Repeat("a", 398) + `"`); x != strings.Repeat("a", 398) || !ok {
		t.Errorf("Text of 400 bytes: %q %t", x, ok)
	}
}

func TestQuote(t *testing.T) {
	for _, c := range []struct{ s, want string }{
		{"", `""`}, {"a", `"a"`}, {`"`, `"\""`}, {`\`, `"\\"`}, {"/", `"/"`}, {"'", `"'"`}, {"\x7f", "\"\x7f\""}, {"<>&", `"<>&"`}, {"\u2028\u2029", "\"\u2028\u2029\""}, {"\ufffd", "\"\ufffd\""}, {"aé€\U0001F600", "\"aé€\U0001F600\""}, {`\u0041`, `"\\u0041"`}, {"null", `"null"`}, {`"a"`, `"\"a\""`},
		{"\b\t\n\f\r", `"\b\t\n\f\r"`}, {"\x00\x01\x07\x0b\x0e\x0f\x10\x1a\x1b\x1f ", `"\u0000\u0001\u0007\u000b\u000e\u000f\u0010\u001a\u001b\u001f "`},
	} {
		if got, ok := Quote(c.s); got != c.want || !ok {
			t.Errorf("Quote(%q): %q %t, want %q", c.s, got, ok, c.want)
		}
		checkForm(t, c.want, c.want)
		if got, ok := Text(c.want); got != c.s || !ok {
			t.Errorf("Text(%q): %q", c.want, got)
		}
	}
}

// The bytes that count are those of the signs: their form may have more than a text may.
func TestLengthsOfQuote(t *testing.T) {
	for _, sign := range []string{"a", "é", "\U0001F600", "\"", "\n", "\x00", "\ufffd"} {
		for _, n := range []int{396, 398, 399, 400} {
			s := strings.Repeat(sign, n/len(sign))
			s += strings.Repeat("x", n-len(s))
			if got, ok := Quote(s); got != wantQuote(s) || !ok {
				t.Errorf("Quote of %d bytes of %q: %d bytes %t", n, sign, len(got), ok)
			}
		}
		for _, n := range []int{401, 402, 404, 1 << 20} {
			s := strings.Repeat(sign, n/len(sign))
			s += strings.Repeat("x", n-len(s))
			if got, ok := Quote(s); got != "" || ok {
				t.Errorf("Quote of %d bytes of %q: %d bytes %t", n, sign, len(got), ok)
			}
		}
	}
	if got, ok := Quote(strings.Repeat("\xff", 401)); got != "" || ok {
		t.Errorf("Quote of too many wrong bytes: %q", got)
	}
}

// Each text of up to five of these parts.
func TestAllShortTextsOfParts(t *testing.T) {
	parts := []string{"[", "]", "{", "}", ",", ":", `"a"`, `"\u0061"`, "1", "null", " "}
	checkAll(t, parts, 5)
}

// Each text of up to so many of these bytes.
func TestAllShortTextsOfBytes(t *testing.T) {
	checkAll(t, strings.Split("-019.e+ ", ""), 5)
	checkAll(t, strings.Split("nultrefas", ""), 5)
	checkAll(t, []string{`"`, `\`, "u", "n", "/", "\x1f", " ", "\xc3", "\xa9"}, 5)
	checkAll(t, []string{`"`, `"\ud8`, `\`, "u", "00", "dc00", "4", "é"}, 5)
}

func checkAll(t *testing.T, parts []string, most int) {
	t.Helper()
	texts := []string{""}
	for range most + 1 {
		var longer []string
		for _, s := range texts {
			if fault := wantFault(s); fault == api.OK {
				check(t, s)
			} else if got, e := Form(s); got != "" || e != fault {
				t.Fatalf("Form(%q): %q %d, want %d", s, got, e, fault)
			}
			for _, p := range parts {
				longer = append(longer, s+p)
			}
		}
		texts = longer
	}
}

// A writer makes up texts that have no fault, in many ways of writing.
type writer struct {
	rnd *rand.Rand
	out strings.Builder
}

func (w *writer) blanks() {
	for w.rnd.Intn(4) == 0 {
		w.out.WriteByte(" \t\n\r"[w.rnd.Intn(4)])
	}
}

func (w *writer) value(depth int) {
	w.blanks()
	kind := w.rnd.Intn(9)
	if depth == mostDepth {
		kind = w.rnd.Intn(5)
	}
	switch kind {
	case 0:
		w.out.WriteString([]string{"null", "true", "false"}[w.rnd.Intn(3)])
	case 1, 2:
		w.out.WriteString(w.number())
	case 3, 4:
		w.text("")
	case 5, 6:
		w.out.WriteByte('[')
		w.blanks()
		for i := range w.rnd.Intn(4) {
			if i > 0 {
				w.out.WriteByte(',')
			}
			w.value(depth + 1)
		}
		w.out.WriteByte(']')
	default:
		w.out.WriteByte('{')
		w.blanks()
		for i := range w.rnd.Intn(4) {
			if i > 0 {
				w.out.WriteByte(',')
			}
			w.blanks()
			w.text(string("cbda"[i]))
			w.blanks()
			w.out.WriteByte(':')
			w.value(depth + 1)
		}
		w.out.WriteByte('}')
	}
	w.blanks()
}

func (w *writer) number() string {
	n := w.rnd.Int63n(1_000_000_000_000_000) >> w.rnd.Intn(50)
	return []string{"", "-"}[w.rnd.Intn(2)] + strconv.FormatInt(n, 10)
}

// text writes a string that begins with the signs of first, so that names may be kept apart.
func (w *writer) text(first string) {
	w.out.WriteByte('"')
	for _, r := range first {
		w.sign(r)
	}
	for range w.rnd.Intn(4) {
		w.sign([]rune{0, 8, '\n', 0x1F, ' ', '"', '/', '\\', 'a', 'z', 0x7F, 0x80, 0xE9, 0x7FF, 0x800, 0x20AC, 0xD7FF, 0xE000, 0xFFFD, 0xFFFF, 0x10000, 0x1F600, 0x10FFFF}[w.rnd.Intn(23)])
	}
	w.out.WriteByte('"')
}

func (w *writer) sign(r rune) {
	at := strings.IndexRune("\"\\/\b\f\n\r\t", r)
	switch {
	case w.rnd.Intn(4) == 0:
		w.out.WriteString(byU(r))
	case w.rnd.Intn(4) == 0:
		w.out.WriteString(strings.ReplaceAll(strings.ToUpper(byU(r)), `\U`, `\u`))
	case at >= 0 && (r != '/' || w.rnd.Intn(2) == 0):
		w.out.WriteString(`\` + `"\/bfnrt`[at:at+1])
	case r < 32:
		w.out.WriteString(byU(r))
	default:
		w.out.WriteRune(r)
	}
}

func madeUp(rnd *rand.Rand) string {
	for {
		w := writer{rnd: rnd}
		w.value(0)
		if w.out.Len() <= mostBytes {
			return w.out.String()
		}
	}
}

func TestMadeUpTexts(t *testing.T) {
	rnd := rand.New(rand.NewSource(9))
	for range 4000 {
		s := madeUp(rnd)
		if wantFault(s) != api.OK {
			t.Fatalf("%q was to be right", s)
		}
		check(t, s)
	}
}

// One byte of a right text is another one, is gone, or is there too.
func TestMadeUpFaults(t *testing.T) {
	rnd := rand.New(rand.NewSource(10))
	const bytes = "[]{},:\"\\ubn019-. \t\x00\x1f\x80\xc3\xff dDaAeE"
	for range 12000 {
		s := madeUp(rnd)
		for range 1 + rnd.Intn(2) {
			at := rnd.Intn(len(s) + 1)
			b := bytes[rnd.Intn(len(bytes))]
			end := min(len(s), at+rnd.Intn(2))
			s = s[:at] + string([]byte{b})[:rnd.Intn(2)] + s[end:]
		}
		check(t, s)
	}
}

// Each front part of a right text, and with something behind it.
func TestFrontParts(t *testing.T) {
	rnd := rand.New(rand.NewSource(11))
	texts := []string{`{"a":[null,true,{"b":"\u00e9é\ud83d\ude00"}],"c":{"d":-12,"e":""},"f":[[[[[[]]]]]]}`}
	for range 60 {
		texts = append(texts, madeUp(rnd))
	}
	for _, s := range texts {
		for i := range len(s) {
			for _, end := range []string{"", "x", "[", "\"", "]", "}", ",\"c\":"} {
				check(t, s[:i]+end)
			}
		}
	}
}

// What is answered is the caller's own.
func TestNamesAreTheCallersOwn(t *testing.T) {
	const s = `{"b":1,"a":2,"c":3}`
	names := Names(s)
	names[0] = "x"
	_ = append(names[:1], "y", "z", "w")
	if again := Names(s); !slices.Equal(again, []string{"a", "b", "c"}) {
		t.Errorf("%q", again)
	}
}

// What a call answers hangs on its arguments alone.
func TestSameAnswerAgain(t *testing.T) {
	texts := []string{`{"b":1,"a":[2]}`, `[1,`, `"x"`, `{"a":1,"a":2}`, "[[[[[[[[[", "7"}
	for range 3 {
		for _, s := range texts {
			check(t, s)
		}
		slices.Reverse(texts)
	}
}

func TestNoCallPanics(t *testing.T) {
	rnd := rand.New(rand.NewSource(12))
	wild := append([]string{"", "\x00", "\\", "\"\\", "\"\\u", "\"\\ud800\\", "\"\\ud800\\u", "-", strings.Repeat("[", 1<<20), strings.Repeat("\"", 1<<20), strings.Repeat("{\"a\":", 80)}, wrongBytes...)
	for range 2000 {
		b := make([]byte, rnd.Intn(420))
		for i := range b {
			b[i] = byte(rnd.Intn(256))
			if rnd.Intn(2) == 0 {
				b[i] = "[]{},:\"\\u0d8n"[rnd.Intn(13)]
			}
		}
		wild = append(wild, string(b))
	}
	for _, s := range wild {
		check(t, s)
		Field(s, s)
		Quote(s)
		for _, i := range farInts {
			Item(s, i)
		}
	}
}
