package pack

import (
	"math"
	"strings"
	"testing"
)

// numberCases are numbers with their bytes written out by hand from the document.
var numberCases = []struct {
	n int
	s string
}{
	{0, "\x00"},
	{1, "\x01"},
	{5, "\x05"},
	{126, "\x7e"},
	{127, "\x7f"},
	{128, "\x81\x00"},
	{129, "\x81\x01"},
	{300, "\x82\x2c"},
	{1<<14 - 1, "\xff\x7f"},
	{1 << 14, "\x81\x80\x00"},
	{1<<21 - 1, "\xff\xff\x7f"},
	{1 << 21, "\x81\x80\x80\x00"},
	{1<<28 - 1, "\xff\xff\xff\x7f"},
	{1 << 28, "\x81\x80\x80\x80\x00"},
	{1<<35 - 1, "\xff\xff\xff\xff\x7f"},
	{1 << 35, "\x81\x80\x80\x80\x80\x00"},
	{1<<42 - 1, "\xff\xff\xff\xff\xff\x7f"},
	{1 << 42, "\x81\x80\x80\x80\x80\x80\x00"},
	{1<<49 - 1, "\xff\xff\xff\xff\xff\xff\x7f"},
	{1 << 49, "\x81\x80\x80\x80\x80\x80\x80\x00"},
	{1<<56 - 1, "\xff\xff\xff\xff\xff\xff\xff\x7f"},
	{1 << 56, "\x81\x80\x80\x80\x80\x80\x80\x80\x00"},
	{1<<62 - 1, "\xbf\xff\xff\xff\xff\xff\xff\xff\x7f"},
	{1 << 62, "\xc0\x80\x80\x80\x80\x80\x80\x80\x00"},
}

// extremes are numbers that any argument may be.
var extremes = []int{math.MinInt, math.MinInt + 1, -1 << 62, -1, 0, 1, 2, 127, 128, 1<<62 - 1, 1 << 62, 1<<62 + 1, math.MaxInt - 1, math.MaxInt}

func checkSpoiled(t *testing.T, what string, o *Opener) {
	t.Helper()
	for range 2 {
		if o.OK() || o.Done() || o.Left() != 0 {
			t.Errorf("%s: OK %v, Done %v, Left %d", what, o.OK(), o.Done(), o.Left())
		}
		for _, n := range extremes {
			if got := o.Num(n); got != 0 {
				t.Errorf("%s: Num(%d) is %d", what, n, got)
			}
			if got := o.Text(n); got != "" {
				t.Errorf("%s: Text(%d) is %q", what, n, got)
			}
			if got := o.Raw(n); got != "" {
				t.Errorf("%s: Raw(%d) is %q", what, n, got)
			}
		}
	}
}

func checkPackerSpoiled(t *testing.T, what string, p *Packer) {
	t.Helper()
	if p.OK() || p.String() != "" {
		t.Errorf("%s: OK %v, String %q", what, p.OK(), p.String())
	}
}

func TestNumbersAreLaid(t *testing.T) {
	for _, c := range numberCases {
		var p Packer
		if p.Num(c.n) != &p || p.String() != c.s || !p.OK() {
			t.Errorf("%d: %x", c.n, p.String())
		}
	}
}

func TestNumbersAreRead(t *testing.T) {
	for _, c := range numberCases {
		for _, most := range []int{c.n, c.n + 1, 1 << 62, math.MaxInt} {
			if most < c.n {
				continue
			}
			o := Open(c.s + "tail")
			if got := o.Num(most); got != c.n || !o.OK() || o.Done() || o.Left() != 4 {
				t.Errorf("%x, at most %d: %d, Left %d", c.s, most, got, o.Left())
			}
		}
		o := Open(c.s)
		if o.Num(c.n) != c.n || !o.Done() || o.Left() != 0 {
			t.Errorf("%x alone", c.s)
		}
	}
}

func TestNumbersThatAreTooGreat(t *testing.T) {
	for _, c := range numberCases {
		for _, most := range []int{c.n - 1, -1, math.MinInt} {
			o := Open(c.s + "tail")
			if got := o.Num(most); got != 0 {
				t.Errorf("%x, at most %d: %d", c.s, most, got)
			}
			checkSpoiled(t, "too great", o)
		}
	}
}

func TestNumbersThatEndTooEarly(t *testing.T) {
	for _, c := range numberCases {
		for i := range len(c.s) {
			o := Open(c.s[:i])
			if got := o.Num(math.MaxInt); got != 0 {
				t.Errorf("%x: %d", c.s[:i], got)
			}
			checkSpoiled(t, "ends within a number", o)
		}
	}
}

func TestBytesThatAreNoNumber(t *testing.T) {
	for _, s := range []string{
		"\x80", "\x80\x00", "\x80\x01", "\x80\x7f", "\x80\x80\x00", "\x80\x81\x00", "\x80\xc0\x80\x80\x80\x80\x80\x80\x80\x00",
		"\xc0\x80\x80\x80\x80\x80\x80\x80\x01",
		"\xc0\x80\x80\x80\x80\x80\x80\x81\x00",
		"\xc1\x80\x80\x80\x80\x80\x80\x80\x00",
		"\xff\xff\xff\xff\xff\xff\xff\xff\x7f",
		"\x81\x80\x80\x80\x80\x80\x80\x80\x80\x00",
		"\x82\x80\x80\x80\x80\x80\x80\x80\x80\x00",
		"\x82\x80\x80\x80\x80\x80\x80\x80\x80\x05",
		"\x81\x80\x80\x80\x80\x80\x80\x80\x80\x80\x80\x05",
		strings.Repeat("\xff", 100) + "\x00",
		strings.Repeat("\x80", 100) + "\x01",
		strings.Repeat("\xff", 100),
	} {
		for _, tail := range []string{"", "tail"} {
			o := Open(s + tail)
			if got := o.Num(math.MaxInt); got != 0 {
				t.Errorf("%x: %d", s, got)
			}
			checkSpoiled(t, "no number", o)
			o = Open(s + tail)
			if got := o.Text(math.MaxInt); got != "" {
				t.Errorf("%x: %q", s, got)
			}
			checkSpoiled(t, "no length", o)
		}
	}
}

func TestPackerThatIsNotOK(t *testing.T) {
	for _, n := range []int{-1, -300, math.MinInt, 1<<62 + 1, math.MaxInt} {
		var p Packer
		p.Num(5).Text("a").Raw("b")
		if p.Num(n) != &p {
			t.Errorf("Num(%d) answers another Packer", n)
		}
		checkPackerSpoiled(t, "behind Num", &p)
		if p.Num(5) != &p || p.Text("a") != &p || p.Raw("b") != &p || p.Num(n) != &p {
			t.Errorf("%d: another Packer", n)
		}
		checkPackerSpoiled(t, "for ever", &p)
	}
}

func TestTextsAreLaid(t *testing.T) {
	for _, c := range []struct{ s, want string }{
		{"", "\x00"},
		{"abc", "\x03abc"},
		{"\x00\xff\x80", "\x03\x00\xff\x80"},
		{"é", "\x02\xc3\xa9"},
		{strings.Repeat("x", 127), "\x7f" + strings.Repeat("x", 127)},
		{strings.Repeat("x", 128), "\x81\x00" + strings.Repeat("x", 128)},
		{strings.Repeat("x", 300), "\x82\x2c" + strings.Repeat("x", 300)},
	} {
		var p, q Packer
		if p.Text(c.s) != &p || p.String() != c.want || !p.OK() {
			t.Errorf("Text(%q): %x", c.s, p.String())
		}
		if q.Raw(c.s) != &q || q.String() != c.s || !q.OK() {
			t.Errorf("Raw(%q): %x", c.s, q.String())
		}
	}
}

func TestTextsAreRead(t *testing.T) {
	for _, s := range []string{"", "a", "abc", "\x00\xff\x80", strings.Repeat("x", 127), strings.Repeat("x", 128), strings.Repeat("x", 300)} {
		var p Packer
		laid := p.Text(s).String()
		for _, most := range []int{len(s), len(s) + 1, math.MaxInt} {
			o := Open(laid + "!")
			if got := o.Text(most); got != s || !o.OK() || o.Left() != 1 {
				t.Errorf("%q, at most %d: %q, Left %d", s, most, got, o.Left())
			}
		}
		for _, most := range []int{len(s) - 1, -1, math.MinInt} {
			o := Open(laid + "!")
			if got := o.Text(most); got != "" {
				t.Errorf("%q, at most %d: %q", s, most, got)
			}
			checkSpoiled(t, "too long", o)
		}
		for i := range len(laid) {
			o := Open(laid[:i])
			if got := o.Text(math.MaxInt); got != "" {
				t.Errorf("%q: %q", laid[:i], got)
			}
			checkSpoiled(t, "ends within a text", o)
		}
	}
}

func TestTextOfAVastLength(t *testing.T) {
	for _, c := range numberCases[1:] {
		o := Open(c.s)
		if got := o.Text(math.MaxInt); got != "" {
			t.Errorf("%x: %q", c.s, got)
		}
		checkSpoiled(t, "vast length", o)
	}
}

func TestRawIsRead(t *testing.T) {
	for _, c := range []struct {
		s    string
		n    int
		want string
		left int
	}{
		{"abc", 0, "", 3},
		{"abc", 1, "a", 2},
		{"abc", 3, "abc", 0},
		{"abc", -1, "", 3},
		{"abc", math.MinInt, "", 3},
		{"", 0, "", 0},
		{"", -1, "", 0},
	} {
		o := Open(c.s)
		if got := o.Raw(c.n); got != c.want || !o.OK() || o.Left() != c.left || o.Done() != (c.left == 0) {
			t.Errorf("Raw(%d) of %q: %q, OK %v, Left %d", c.n, c.s, got, o.OK(), o.Left())
		}
	}
	for _, s := range []string{"", "abc"} {
		for _, n := range []int{len(s) + 1, 1 << 62, math.MaxInt} {
			o := Open(s)
			if got := o.Raw(n); got != "" {
				t.Errorf("Raw(%d) of %q: %q", n, s, got)
			}
			checkSpoiled(t, "too few bytes", o)
		}
	}
}

func TestNothingLaid(t *testing.T) {
	var p Packer
	if !p.OK() || p.String() != "" {
		t.Error("the zero Packer")
	}
	if p.Raw("").String() != "" || !p.OK() {
		t.Error("Raw of no bytes")
	}
	o := Open("")
	if !o.OK() || !o.Done() || o.Left() != 0 {
		t.Error("Open of no bytes")
	}
}

func TestWhatWasLaidIsRead(t *testing.T) {
	texts := []string{"", "a", "abc", "\x80\x80", strings.Repeat("y", 200)}
	var p Packer
	for i, c := range numberCases {
		p.Num(c.n).Text(texts[i%len(texts)]).Raw(texts[(i+1)%len(texts)])
	}
	s := p.String()
	if !p.OK() || s == "" || p.String() != s {
		t.Fatalf("%x", s)
	}
	o := Open(s)
	for i, c := range numberCases {
		text, raw := texts[i%len(texts)], texts[(i+1)%len(texts)]
		left := o.Left()
		if got := o.Num(c.n); got != c.n {
			t.Errorf("the number %d: %d", c.n, got)
		}
		if got := o.Text(len(text)); got != text {
			t.Errorf("the text %q: %q", text, got)
		}
		if o.Done() && raw != "" {
			t.Error("done too early")
		}
		if got := o.Raw(len(raw)); got != raw {
			t.Errorf("the bytes %q: %q", raw, got)
		}
		var one Packer
		if read := left - o.Left(); read != len(one.Num(c.n).Text(text).Raw(raw).String()) {
			t.Errorf("%d bytes were read", read)
		}
	}
	if !o.OK() || !o.Done() || o.Left() != 0 {
		t.Error("at the end")
	}
}

// Every text of one or two bytes is read as the number it is, or as none: laid again, it is the same text.
func TestNumbersHaveOneFormEach(t *testing.T) {
	seen := map[int]int{}
	for first := range 256 {
		for second := range 257 {
			s := string([]byte{byte(first)})
			if second < 256 {
				s += string([]byte{byte(second)})
			}
			o := Open(s)
			n := o.Num(math.MaxInt)
			if !o.Done() {
				continue
			}
			seen[n]++
			var p Packer
			if p.Num(n).String() != s {
				t.Errorf("%x is read as %d", s, n)
			}
		}
	}
	for n := range 1 << 14 {
		if seen[n] != 1 {
			t.Errorf("%d has %d forms", n, seen[n])
		}
	}
	if len(seen) != 1<<14 {
		t.Errorf("%d numbers", len(seen))
	}
}

func TestCopiesAreApart(t *testing.T) {
	var p Packer
	p.Num(1).Num(2).Num(3)
	q := p
	p.Num(4)
	q.Num(5)
	if p.String() != "\x01\x02\x03\x04" || q.String() != "\x01\x02\x03\x05" {
		t.Errorf("%x, %x", p.String(), q.String())
	}
	s := p.String()
	p.Num(-1)
	if s != "\x01\x02\x03\x04" || !q.OK() {
		t.Error("what was answered is changed")
	}
	o := Open("abcd")
	o.Raw(1)
	c := *o
	o.Raw(9)
	if !c.OK() || c.Raw(3) != "bcd" {
		t.Error("a copy of an Opener")
	}
}

func TestNilPacker(t *testing.T) {
	var p *Packer
	for _, n := range extremes {
		if p.Num(n) != nil {
			t.Errorf("Num(%d)", n)
		}
	}
	if p.Text("a") != nil || p.Text("") != nil || p.Raw("a") != nil || p.Raw("") != nil {
		t.Error("Text, Raw")
	}
	checkPackerSpoiled(t, "nil", p)
	checkPackerSpoiled(t, "nil", p.Num(1).Text("a").Raw("b"))
}

func TestNilOpener(t *testing.T) {
	var o *Opener
	checkSpoiled(t, "nil", o)
}

func TestNoCallPanics(t *testing.T) {
	for _, n := range extremes {
		for _, s := range []string{"", "\x00", "\x80", "\xff", "\x81\x00", "\x02ab", strings.Repeat("\xff", 20), "\xc0\x80\x80\x80\x80\x80\x80\x80\x00ab"} {
			var p Packer
			p.Num(n).Text(s).Raw(s)
			if ok := n >= 0 && n <= 1<<62; p.OK() != ok || (p.String() != "") != ok {
				t.Errorf("Num(%d): OK %v", n, p.OK())
			}
			for _, ask := range []func(o *Opener){
				func(o *Opener) { o.Num(n) },
				func(o *Opener) { o.Text(n) },
				func(o *Opener) { o.Raw(n) },
			} {
				o, zero := Open(s), new(Opener)
				ask(o)
				ask(zero)
				if o.OK() != (o.Done() || o.Left() > 0) || o.Left() > len(s) || zero.Left() != 0 {
					t.Errorf("%x, %d: OK %v, Left %d", s, n, o.OK(), o.Left())
				}
			}
		}
	}
}
