package canon

import (
	"crypto/sha256"
	"fmt"
	"math"
	"math/rand"
	"net/url"
	"strings"
	"testing"
	"unicode/utf8"

	"concierge/api"
)

// unlike are signs beyond A to Z, a to z; some of them have a great or small letter that is one of these.
var unlike = []string{"Ä", "ä", "ß", "\u0131", "\u0130", "\u017f", "\u212a", "\uff21", "\uff41", "\u0391", "\u0410"}

// noUTF8 are bytes that are no right UTF-8.
var noUTF8 = []string{
	"\x80", "\xbf", "\xff", "\xfe", "\xc3", "\xe2\x82", "\xf0\x9f\x94", "\xc0\xaf", "\xc1\x81", "\xe0\x83\x84",
	"\xed\xa0\x80", "\xed\xbf\xbf", "\xf4\x90\x80\x80", "\xc3\x28",
}

// controls are right UTF-8, and signs of sort 0.
var controls = []string{"\x00", "\t", "\n", "\r", "\x1f", "\x7f", "\u0080", "\u0085", "\u009f", "\ufffd"}

func great(s string) string {
	return percent(s, "%%%02X")
}

func small(s string) string {
	return percent(s, "%%%02x")
}

func percent(s, format string) string {
	var out strings.Builder
	for i := range len(s) {
		fmt.Fprintf(&out, format, s[i])
	}
	return out.String()
}

// plain are the bytes that stand in a path's form as they are.
func plain(b byte) bool {
	return strings.IndexByte("ABCDEFGHIJKLMNOPQRSTUVWXYZabcdefghijklmnopqrstuvwxyz0123456789-._~", b) >= 0
}

// control are the signs of sort 0, as the document gives them.
func control(r rune) bool {
	return r < 0x20 || 0x7F <= r && r <= 0x9F || r == 0xFFFD
}

// keySign are the signs of sort 2 and 3, as the document gives them, and the three beside them.
func keySign(r rune) bool {
	switch {
	case r == '-' || r == '_' || r == '.':
		return true
	case '0' <= r && r <= '9', 'A' <= r && r <= 'Z', 'a' <= r && r <= 'z':
		return true
	case 0xC0 <= r && r <= 0xD6, 0xD8 <= r && r <= 0xF6, 0xF8 <= r && r <= 0x24F:
		return true
	}
	return 0x391 <= r && r <= 0x3A1 || 0x3A3 <= r && r <= 0x3C9
}

// wantPath is written by other means than the program: "" of what is no path.
func wantPath(s string) string {
	if len(s) < 1 || len(s) > 60 || s[0] != '/' {
		return ""
	}
	stack := []string{}
	for _, raw := range strings.Split(s, "/") {
		part, err := url.PathUnescape(raw)
		if err != nil || !utf8.ValidString(part) || strings.ContainsFunc(part, control) {
			return ""
		}
		if part == ".." && len(stack) == 0 {
			return ""
		}
		if part == ".." {
			stack = stack[:len(stack)-1]
		} else if part != "." && part != "" {
			stack = append(stack, part)
		}
	}
	form := ""
	for _, part := range stack {
		form += "/"
		for i := range len(part) {
			if plain(part[i]) {
				form += part[i : i+1]
			} else {
				form += great(part[i : i+1])
			}
		}
	}
	if form == "" {
		form = "/"
	}
	if len(form) > 60 {
		return ""
	}
	return form
}

// checkForm holds a form against what is wanted ("" of none), and against the form's form.
func checkForm(t *testing.T, call func(string) (string, bool), s, want string) {
	t.Helper()
	got, ok := call(s)
	if got != want || ok != (want != "") {
		t.Errorf("%q: %q %v, not %q", s, got, ok, want)
		return
	}
	if !ok {
		return
	}
	if again, ok := call(got); again != got || !ok {
		t.Errorf("%q: the form of its form %q is %q %v", s, got, again, ok)
	}
}

func checkPath(t *testing.T, s, want string) {
	t.Helper()
	checkForm(t, Path, s, want)
}

func checkMethod(t *testing.T, s, want string) {
	t.Helper()
	checkForm(t, Method, s, want)
}

func TestMethods(t *testing.T) {
	for s, want := range map[string]string{
		"get": "GET", "GET": "GET", "GeT": "GET", "gEt": "GET", "a": "A", "z": "Z", "A": "A", "Z": "Z",
		"post": "POST", "DELETE": "DELETE", "abcdefgh": "ABCDEFGH", "ijklmnop": "IJKLMNOP", "qrstuvwx": "QRSTUVWX", "yz": "YZ",
	} {
		checkMethod(t, s, want)
	}
}

func TestMethodsOfEachByte(t *testing.T) {
	const greatLetters, smallLetters = "ABCDEFGHIJKLMNOPQRSTUVWXYZ", "abcdefghijklmnopqrstuvwxyz"
	for b := range 256 {
		s, want := string([]byte{byte(b)}), ""
		if strings.IndexByte(greatLetters, byte(b)) >= 0 {
			want = s
		}
		if i := strings.IndexByte(smallLetters, byte(b)); i >= 0 {
			want = greatLetters[i : i+1]
		}
		checkMethod(t, s, want)
		if want != "" {
			checkMethod(t, "a"+s+"B", "A"+want+"B")
			continue
		}
		for _, wrong := range []string{s + "GET", "G" + s + "ET", "GET" + s} {
			checkMethod(t, wrong, "")
		}
	}
}

func TestMethodsByTheirLength(t *testing.T) {
	for n := range 20 {
		for _, c := range []struct{ s, want string }{{"q", "Q"}, {"Q", "Q"}} {
			want := ""
			if 1 <= n && n <= 8 {
				want = strings.Repeat(c.want, n)
			}
			checkMethod(t, strings.Repeat(c.s, n), want)
		}
	}
}

func TestWrongMethods(t *testing.T) {
	checkMethod(t, "", "")
	wrong := append([]string{" ", "GET ", " GET", "G T", "P1", "1P", "G\nT", "GET\x00", "\u00a0", "%47ET", "GE-T"}, unlike...)
	for _, s := range append(wrong, noUTF8...) {
		checkMethod(t, s, "")
		checkMethod(t, "a"+s+"a", "")
	}
}

func TestKeysOfEachSign(t *testing.T) {
	for r := rune(0); r <= 0x10FFFF; r++ {
		if 0xD800 <= r && r <= 0xDFFF {
			continue
		}
		if got := Key(string(r)); got != keySign(r) {
			t.Errorf("%U: %v", r, got)
		}
	}
}

func TestKeys(t *testing.T) {
	for s, want := range map[string]bool{
		"k": true, "7": true, "-": true, "_": true, ".": true, "..": true, "a-1_b.C": true, "0123456789": true, "Ä": true, "Ωmega": true, "ωΑ9.ÿɏ": true,
		"": false, " ": false, "a b": false, " a": false, "a ": false, "a\u00a0b": false, "a\u3000": false, "a/b": false, "/": false,
		"a\x00": false, "\na": false, "a\x7fb": false, "a\u0085": false, "a\ufffdb": false, "×": false, "a÷": false, "\u03a2": false,
		"a+b": false, "a%20": false, "a~": false, "a,b": false, "€": false, "k\U0001F511": false,
	} {
		if got := Key(s); got != want {
			t.Errorf("%q: %v", s, got)
		}
	}
	for _, s := range noUTF8 {
		for _, key := range []string{s, "a" + s, s + "a", "a" + s + "a"} {
			if Key(key) {
				t.Errorf("%q may be", key)
			}
		}
	}
}

func TestKeysByTheirBytes(t *testing.T) {
	for _, sign := range []string{"k", "5", "-", "_", ".", "Ä", "ω"} {
		for n := range 40 {
			s := strings.Repeat(sign, n)
			if got := Key(s); got != (1 <= len(s) && len(s) <= 24) {
				t.Errorf("%q, of %d bytes: %v", s, len(s), got)
			}
		}
	}
	if s := strings.Repeat("Ä", 12); !Key(s) || Key(s+"a") || !Key("ab"+s[2:]) {
		t.Error("signs of one and of two bytes")
	}
	if s := strings.Repeat("k", 23); !Key(s+".") || Key(s+"Ä") || Key(s+" ") {
		t.Error("what comes last")
	}
}

func TestPaths(t *testing.T) {
	for s, want := range map[string]string{
		"/a//b/../c%2fd":           "/a/c%2Fd",
		"/":                        "/",
		"/a":                       "/a",
		"/a/":                      "/a",
		"/a/b/c":                   "/a/b/c",
		"/Ab/cD":                   "/Ab/cD",
		"/%41/%5a/%61/%7a/%30/%39": "/A/Z/a/z/0/9",
		"/a%2Db%2e%5F%7e":          "/a-b._~",
		"/a%2Db%2E%5f%7E":          "/a-b._~",
		"/%6A%6b":                  "/jk",
		"/Ä":                       "/%C3%84",
		"/%c3%84":                  "/%C3%84",
		"/%C3\x84":                 "/%C3%84",
		"/\xc3%84":                 "/%C3%84",
		"/a b":                     "/a%20b",
		"/a+b":                     "/a%2Bb",
		"/a?b=c#d":                 "/a%3Fb%3Dc%23d",
		"/\u00a0\u3000":            "/%C2%A0%E3%80%80",
		"/%f0%9f%94%91":            "/%F0%9F%94%91",
	} {
		checkPath(t, s, want)
	}
}

func TestPathsWithPartsThatFallAway(t *testing.T) {
	for s, want := range map[string]string{
		"//": "/", "///": "/", "/.": "/", "/./": "/", "/./.": "/", "//a": "/a", "/a//": "/a", "/a///b": "/a/b", "/./a/./b/.": "/a/b",
		"/a/..": "/", "/a/../": "/", "/a/b/..": "/a", "/a/b/../": "/a", "/a/b/../c": "/a/c", "/a/b/../../c": "/c", "/a/../b/../c": "/c",
		"/a//..": "/", "/a/./..": "/", "/a/b/..//../c": "/c", "/a/b/./../c": "/a/c", "/a/.././b": "/b",
		"/...": "/...", "/..a": "/..a", "/a..": "/a..", "/.a": "/.a", "/a.": "/a.", "/. ": "/.%20", "/.../..": "/",
		"/%2e": "/", "/%2E": "/", "/a/%2e/b": "/a/b", "/a/%2e%2e": "/", "/a/%2E%2e/b": "/b", "/a/.%2e": "/", "/a/%2e./b": "/b", "/%2e%2e%2e": "/...",
		"/a/%2F": "/a/%2F", "/%2f..": "/%2F..", "/a/..%2f": "/a/..%2F", "/a/%2e%2f": "/a/.%2F", "/a%2f/..": "/", "/a%2F..%2Fb": "/a%2F..%2Fb", "/a/b%2fc/..": "/a",
		"/%252e%252e": "/%252e%252e", "/a/%252E": "/a/%252E", "/%2541": "/%2541", "/%25": "/%25", "/%25%34%31": "/%2541",
	} {
		checkPath(t, s, want)
	}
}

func TestPathsThatTakeAwayOfNone(t *testing.T) {
	for _, s := range []string{
		"/..", "/../", "/../a", "//..", "/./..", "/%2e/..", "/a/../..", "/a/../../b", "/a/..//..", "/a/.././..", "/a/b/../../..", "/a/b/../../../c/d",
		"/%2e%2e", "/.%2e", "/%2E.", "/a/%2e%2e/..", "/a/../%2e%2E/b",
	} {
		checkPath(t, s, "")
	}
}

func TestPathsOfEachByte(t *testing.T) {
	for n := range 256 {
		b := string([]byte{byte(n)})
		want := great(b)
		switch {
		case n < 0x20 || n >= 0x7F:
			want = ""
		case plain(byte(n)):
			want = b
		}
		for _, raw := range []string{great(b), small(b)} {
			if want == "" {
				checkPath(t, "/a"+raw, "")
				checkPath(t, "/"+raw+"/..", "")
				continue
			}
			checkPath(t, "/a"+raw, "/a"+want)
			checkPath(t, "/x/"+raw+"z/y", "/x/"+want+"z/y")
		}
		switch {
		case n == '/':
			checkPath(t, "/a/b", "/a/b")
		case n == '%' || want == "":
			checkPath(t, "/a"+b, "")
		default:
			checkPath(t, "/a"+b, "/a"+want)
		}
	}
}

func TestPathsOfEachTwoSignsBehindPercent(t *testing.T) {
	const digits = "0123456789abcdefABCDEF"
	for high := range 256 {
		for low := range 256 {
			two := string([]byte{byte(high), byte(low)})
			may := strings.IndexByte(digits, byte(high)) >= 0 && strings.IndexByte(digits, byte(low)) >= 0
			s := "/a%" + two
			if !may {
				checkPath(t, s, "")
			}
			checkPath(t, s, wantPath(s))
			checkPath(t, s+"/../b", wantPath(s+"/../b"))
		}
	}
}

func TestWrongPaths(t *testing.T) {
	for _, s := range []string{
		"", "a", "a/b", " /a", ".", "..", "%2f", "%2Fa", "\\a", "\x00/a", "\xff",
		"/%", "/a%", "/%4", "/%a", "/a/%", "/%/a", "/%4/1", "/%/41", "/%4%31", "/%%41", "/%%34%31", "/%zz", "/%4g", "/%g4", "/% 4", "/%4 ", "/%+4", "/%-1", "/%0x", "/%_4", "/%4_",
		"/%Ä", "/%4Ä", "/%４１", "/%4\x00", "/%@0", "/%`0", "/%:0", "/%0G", "/%0/", "/%u0041", "/%41%", "/%41%4", "/%z0%9f%94%91", "/%fz%9f%94%91", "/%c3%8z", "/%c3%z4",
		"/%/..", "/a%4/../b", "/%zz/..", "/%00/..", "/%ff/../a", "/\xff/..", "/\x7f/..",
		"/%c3/%84", "/%c3%84%84", "/%c3%c3%84", "/%84%c3",
	} {
		checkPath(t, s, "")
	}
}

func TestPathsWithPartsThatAreNotRight(t *testing.T) {
	for _, part := range append(append([]string{}, noUTF8...), controls...) {
		for _, raw := range []string{part, great(part), small(part), part[:1] + great(part[1:]), great(part[:1]) + part[1:]} {
			for _, s := range []string{"/" + raw, "/a" + raw, "/" + raw + "b", "/a/" + raw + "/b", "/a/" + raw + "/..", "/../" + raw} {
				checkPath(t, s, "")
			}
		}
	}
}

func TestPathsByTheirBytes(t *testing.T) {
	x := strings.Repeat("x", 70)
	for n := range 70 {
		want := ""
		if n+1 <= 60 {
			want = "/" + x[:n]
		}
		checkPath(t, "/"+x[:n], want)
	}
	checkPath(t, strings.Repeat("/", 60), "/")
	checkPath(t, strings.Repeat("/", 61), "")
	checkPath(t, strings.Repeat("/", 58)+"ab", "/ab")
	checkPath(t, strings.Repeat("/", 59)+"ab", "")
	checkPath(t, strings.Repeat("/x", 30), strings.Repeat("/x", 30))
	checkPath(t, strings.Repeat("/x", 30)+"/", "")
	checkPath(t, "/a"+strings.Repeat("/.", 29), "/a")
	checkPath(t, strings.Repeat("%41", 20), "")
	checkPath(t, "/"+strings.Repeat("%41", 19)+"bc", "/"+strings.Repeat("A", 19)+"bc")
	checkPath(t, "/"+strings.Repeat("%41", 20), "")
}

func TestPathsByTheBytesOfTheirForm(t *testing.T) {
	stars := strings.Repeat("*", 60)
	for n := 1; n < 60; n++ {
		want := ""
		if 1+3*n <= 60 {
			want = "/" + strings.Repeat("%2A", n)
		}
		checkPath(t, "/"+stars[:n], want)
	}
	form := "/" + strings.Repeat("%2A", 19)
	checkPath(t, "/"+stars[:19]+"x", form+"x")
	checkPath(t, "/"+stars[:19]+"xx", form+"xx") // just MaxPath bytes
	checkPath(t, "/"+stars[:19]+"xxx", "")
	checkPath(t, "/"+stars[:19]+"/x", form+"/x")
	checkPath(t, "/"+stars[:19]+"/xx", "")
	checkPath(t, form+"xx", form+"xx")
	checkPath(t, "/"+strings.Repeat("Ä", 9)+"xxxxx", "/"+strings.Repeat("%C3%84", 9)+"xxxxx")
	checkPath(t, "/"+strings.Repeat("Ä", 9)+"xxxxxx", "")
	// What is taken away has no bytes in the form.
	checkPath(t, "/"+stars[:54]+"/../a", "/a")
	checkPath(t, "/"+stars[:30]+"/../"+stars[:19]+"xx", form+"xx")
}

func TestPathsAsOthersMakeThem(t *testing.T) {
	pieces := []string{"/", "/", "/", ".", "..", "/..", "/.", "a", "bC", "9", "-", "_", "~", "*", " ", "Ä", "%", "%41", "%2f", "%2F", "%2e", "%2E", "%25", "%c3", "%84", "%7f", "%00", "%c3%84", "\xc3", "\x84", "%zz", "?", "\u3000"}
	rng := rand.New(rand.NewSource(5))
	may := 0
	for range 200000 {
		var s strings.Builder
		if rng.Intn(20) > 0 {
			s.WriteString("/")
		}
		for range rng.Intn(14) {
			s.WriteString(pieces[rng.Intn(len(pieces))])
		}
		want := wantPath(s.String())
		if want != "" {
			may++
		}
		checkPath(t, s.String(), want)
	}
	if may < 10000 {
		t.Errorf("%d paths alone", may)
	}
}

// textBytes writes out how many bytes s has (below 2^14), and these.
func textBytes(s string) string {
	if len(s) < 128 {
		return string([]byte{byte(len(s))}) + s
	}
	return string([]byte{byte(128 | len(s)>>7), byte(len(s) & 127)}) + s
}

func TestPrints(t *testing.T) {
	for _, c := range []struct{ method, path, body, bytes string }{
		{"POST", "/a", "b", "\x04POST\x02/a\x01b"},
		{"", "", "", "\x00\x00\x00"},
		{"a", "bc", "", "\x01a\x02bc\x00"},
		{"ab", "c", "", "\x02ab\x01c\x00"},
		{"", "", "abc", "\x00\x00\x03abc"},
		{"get", "//", "\xff\x00", "\x03get\x02//\x02\xff\x00"},
		{"Ä", "\x80", "\n", "\x02Ä\x01\x80\x01\n"},
	} {
		want := sha256.Sum256([]byte(c.bytes))
		if got := Print(c.method, c.path, c.body); got != string(want[:]) {
			t.Errorf("%q, %q, %q: %x, not %x", c.method, c.path, c.body, got, want)
		}
	}
}

func TestPrintsOfLongTexts(t *testing.T) {
	for _, n := range []int{0, 1, 55, 63, 64, 80, 81, 127, 128, 129, 300, 10000} {
		long := strings.Repeat("\xe4", n)
		for _, c := range [][3]string{{long, "/a", "b"}, {"GET", long, "b"}, {"GET", "/a", long}, {long, long, long}} {
			want := sha256.Sum256([]byte(textBytes(c[0]) + textBytes(c[1]) + textBytes(c[2])))
			if got := Print(c[0], c[1], c[2]); got != string(want[:]) {
				t.Errorf("%d bytes: %x, not %x", n, got, want)
			}
		}
	}
}

func TestPrintsOfTextsPartedElsewhere(t *testing.T) {
	if Print("a", "bc", "") == Print("ab", "c", "") {
		t.Error("a, bc and ab, c")
	}
	const all = "\x01a\x02bc\x00/d"
	seen := map[string]int{}
	parts := 0
	for i := range len(all) + 1 {
		for j := i; j <= len(all); j++ {
			seen[Print(all[:i], all[i:j], all[j:])]++
			parts++
		}
	}
	if len(seen) != parts {
		t.Errorf("%d prints of %d", len(seen), parts)
	}
}

func rightRequest() api.Request {
	return api.Request{Client: 1, Serial: 7, Tenant: 2, Key: "k-Ä.1", Method: "pOst", Path: "/a//b/../c%2fd", Body: "{ \"sum\": 5 }\x00\xff"}
}

func checkRequest(t *testing.T, what string, r, want api.Request) {
	t.Helper()
	got, ok := Request(r)
	if got != want || !ok {
		t.Errorf("%s: %+v %v, not %+v", what, got, ok, want)
	}
	if again, ok := Request(got); again != got || !ok {
		t.Errorf("%s: the form of its form is %+v %v", what, again, ok)
	}
}

func checkNoRequest(t *testing.T, what string, r api.Request) {
	t.Helper()
	if got, ok := Request(r); got != (api.Request{}) || ok {
		t.Errorf("%s: %+v %v", what, got, ok)
	}
}

func TestRequests(t *testing.T) {
	want := rightRequest()
	want.Method, want.Path = "POST", "/a/c%2Fd"
	checkRequest(t, "a right one", rightRequest(), want)
	r := api.Request{Key: "k", Method: "G", Path: "/"}
	checkRequest(t, "the least one", r, r)
	r = api.Request{
		Client: api.MaxClients - 1, Serial: api.MaxNumber, Tenant: api.MaxTenants - 1, Key: strings.Repeat("k", 24),
		Method: strings.Repeat("G", 8), Path: "/" + strings.Repeat("x", 59), Body: strings.Repeat("\xff", 80),
	}
	checkRequest(t, "the greatest one", r, r)
}

func TestRequestsByTheirNumbers(t *testing.T) {
	for _, c := range []struct {
		what string
		most int
		at   func(r *api.Request) *int
	}{
		{"Tenant", 3, func(r *api.Request) *int { return &r.Tenant }},
		{"Client", 3, func(r *api.Request) *int { return &r.Client }},
		{"Serial", 1 << 30, func(r *api.Request) *int { return &r.Serial }},
	} {
		for _, n := range []int{0, 1, c.most - 1, c.most} {
			r := rightRequest()
			*c.at(&r) = n
			want := r
			want.Method, want.Path = "POST", "/a/c%2Fd"
			checkRequest(t, fmt.Sprint(c.what, n), r, want)
		}
		for _, n := range []int{math.MinInt, -1 << 32, -2, -1, c.most + 1, c.most + 2, 1 << 32, 1<<32 + 1, math.MaxInt} {
			r := rightRequest()
			*c.at(&r) = n
			checkNoRequest(t, fmt.Sprint(c.what, n), r)
		}
	}
}

func TestRequestsByTheirBody(t *testing.T) {
	for n := range 100 {
		r := rightRequest()
		r.Body = strings.Repeat("\x00", n)
		want := r
		want.Method, want.Path = "POST", "/a/c%2Fd"
		if n <= 80 {
			checkRequest(t, fmt.Sprint("a body of ", n), r, want)
		} else {
			checkNoRequest(t, fmt.Sprint("a body of ", n), r)
		}
	}
	r := rightRequest()
	r.Body = strings.Repeat("Ä", 41)
	checkNoRequest(t, "a body of 41 signs, and 82 bytes", r)
}

func TestRequestsWithOneFieldWrong(t *testing.T) {
	for _, c := range []struct {
		what  string
		wrong []string
		at    func(r *api.Request) *string
	}{
		{"Key", []string{"", "a b", "a/b", "\xff", "a\x00", strings.Repeat("k", 25)}, func(r *api.Request) *string { return &r.Key }},
		{"Method", []string{"", "P1", "GET ", "Ä", strings.Repeat("G", 9)}, func(r *api.Request) *string { return &r.Method }},
		{"Path", []string{"", "a", "/..", "/%", "/%ff", "/" + strings.Repeat("x", 60), "/" + strings.Repeat("*", 20)}, func(r *api.Request) *string { return &r.Path }},
		{"Body", []string{strings.Repeat("b", 81), strings.Repeat("b", 1000)}, func(r *api.Request) *string { return &r.Body }},
	} {
		for _, s := range c.wrong {
			r := rightRequest()
			*c.at(&r) = s
			checkNoRequest(t, fmt.Sprintf("%s %q", c.what, s), r)
		}
	}
	checkNoRequest(t, "the zero one", api.Request{})
}

func TestNoCallPanics(t *testing.T) {
	rng := rand.New(rand.NewSource(55))
	for n := range 2000 {
		b := make([]byte, n%130)
		rng.Read(b)
		if n%2 == 0 && len(b) > 0 {
			b[0] = '/'
		}
		s := string(b)
		checkPath(t, s, wantPath(s))
		if form, ok := Method(s); ok != (form != "") {
			t.Errorf("the method %q: %q %v", s, form, ok)
		}
		if Key(s) && (len(s) < 1 || len(s) > 24) {
			t.Errorf("the key %q may be", s)
		}
		if len(Print(s, s, s)) != 32 {
			t.Errorf("the print of %q", s)
		}
		if got, ok := Request(api.Request{Client: rng.Int(), Serial: -rng.Int(), Tenant: rng.Int(), Key: s, Method: s, Path: s, Body: s}); ok || got != (api.Request{}) {
			t.Errorf("a request of %q", s)
		}
	}
	long := strings.Repeat("/%41", 100000)
	checkPath(t, long, "")
	checkMethod(t, strings.Repeat("G", 100000), "")
	if Key(strings.Repeat("k", 100000)) || len(Print(long, long, long)) != 32 {
		t.Error("long texts")
	}
}
