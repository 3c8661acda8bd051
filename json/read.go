package json

import (
	"slices"
	"strconv"
	"strings"
	"unicode/utf8"

	"concierge/api"
)

const (
	wordNull  = "null"
	wordFalse = "false"
	wordTrue  = "true"
)

// The signs that may stand behind a \, and those that they stand for, each at the same place.
const (
	escapes = `"\/bfnrt`
	undone  = "\"\\/\b\f\n\r\t"
)

// The halves by which UTF-16 writes a code point from U+10000 on.
const (
	firstHigh = 0xD800
	firstLow  = 0xDC00
	lastLow   = 0xDFFF
)

const mostDigits = 15

// A reader goes through a text from the left, up to the first fault.
type reader struct {
	text  string
	at    int
	depth int
	fault api.Errno
}

// read answers the value that s is; nil beside a fault.
func read(s string) (any, api.Errno) {
	if len(s) > api.MaxJSON {
		return nil, api.ErrLong
	}
	r := reader{text: s}
	v := r.value()
	if r.at < len(s) {
		r.fail(api.ErrForm)
	}
	if r.fault != api.OK {
		return nil, r.fault
	}
	return v, api.OK
}

// fail keeps the fault that was met first.
func (r *reader) fail(fault api.Errno) {
	if r.fault == api.OK {
		r.fault = fault
	}
}

// next answers 0 at the end and behind a fault: no text goes on with that byte, so that all reading ends there.
func (r *reader) next() byte {
	if r.fault != api.OK || r.at == len(r.text) {
		return 0
	}
	return r.text[r.at]
}

// met goes behind the next byte, if it is that one.
func (r *reader) met(b byte) bool {
	if r.next() != b {
		return false
	}
	r.at++
	return true
}

func (r *reader) must(b byte) {
	if !r.met(b) {
		r.fail(api.ErrForm)
	}
}

func (r *reader) blanks() {
	for r.met(' ') || r.met('\t') || r.met('\n') || r.met('\r') {
	}
}

func (r *reader) value() any {
	r.blanks()
	v := r.bare()
	r.blanks()
	return v
}

func (r *reader) bare() any {
	switch r.next() {
	case 'n':
		r.word(wordNull)
		return null{}
	case 'f':
		r.word(wordFalse)
		return truth(false)
	case 't':
		r.word(wordTrue)
		return truth(true)
	case '"':
		return text(r.signs())
	case '[':
		return r.list()
	case '{':
		return r.object()
	}
	return r.number()
}

func (r *reader) word(word string) {
	for i := range len(word) {
		r.must(word[i])
	}
}

func (r *reader) number() number {
	start := r.at
	r.met('-')
	if r.met('0') {
		return 0
	}
	first := r.at
	for b := r.next(); '0' <= b && b <= '9'; b = r.next() {
		r.at++
	}
	if r.at == first || r.at-first > mostDigits {
		r.fail(api.ErrForm)
		return 0
	}
	// There is no error to ask for: so few digits are a number.
	n, _ := strconv.Atoi(r.text[start:r.at])
	return number(n)
}

func (r *reader) list() list {
	var all list
	r.open()
	for more := !r.shut(']'); more; more = r.more(']') {
		all = append(all, r.value())
	}
	return all
}

func (r *reader) object() object {
	var all object
	r.open()
	for more := !r.shut('}'); more; more = r.more('}') {
		r.blanks()
		name := r.signs()
		at, there := all.find(name)
		if there {
			r.fail(api.ErrThere)
		}
		r.blanks()
		r.must(':')
		all = slices.Insert(all, at, member{name, r.value()})
	}
	return all
}

// open goes behind a [ or a {, and the blanks behind it.
func (r *reader) open() {
	if r.depth == api.MaxDepth {
		r.fail(api.ErrOver)
		return
	}
	r.depth++
	r.at++
	r.blanks()
}

// shut goes behind the end of what was opened last, if that is next.
func (r *reader) shut(end byte) bool {
	if !r.met(end) {
		return false
	}
	r.depth--
	return true
}

// more tells whether another one comes behind a value; if none does, what was opened last has to end there.
func (r *reader) more(end byte) bool {
	if r.met(',') {
		return true
	}
	if !r.shut(end) {
		r.fail(api.ErrForm)
	}
	return false
}

// signs answers the signs of a string, its \ undone.
func (r *reader) signs() string {
	var out strings.Builder
	r.must('"')
	for r.fault == api.OK && !r.met('"') {
		if r.met('\\') {
			out.WriteRune(r.escaped())
		} else {
			out.WriteString(r.plain())
		}
	}
	return out.String()
}

// plain answers the signs up to the next " or \, which are to be one at the least.
func (r *reader) plain() string {
	rest := r.text[r.at:]
	size := 0
	for i, sign := range rest {
		if !isPlain(sign) || !isRight(sign, rest[i:]) {
			break
		}
		size = i + utf8.RuneLen(sign)
	}
	if size == 0 {
		r.fail(api.ErrForm)
	}
	r.at += size
	return rest[:size]
}

func isPlain(sign rune) bool {
	return sign >= ' ' && sign != '"' && sign != '\\'
}

// isRight tells a sign U+FFFD that stands there from bytes that are no right UTF-8, for which the language gives the same sign.
func isRight(sign rune, s string) bool {
	return sign != utf8.RuneError || strings.HasPrefix(s, string(utf8.RuneError))
}

// escaped answers the code point of what stands behind a \.
func (r *reader) escaped() rune {
	if r.met('u') {
		return r.point()
	}
	for i := range len(escapes) {
		if r.met(escapes[i]) {
			return rune(undone[i])
		}
	}
	r.fail(api.ErrForm)
	return 0
}

// point answers the code point of four digits, or of two times four that are one.
func (r *reader) point() rune {
	high := r.unit()
	if high < firstHigh || high > lastLow {
		return high
	}
	r.must('\\')
	r.must('u')
	low := r.unit()
	if high >= firstLow || low < firstLow || low > lastLow {
		r.fail(api.ErrForm)
		return 0
	}
	return 0x10000 + (high-firstHigh)<<10 + (low - firstLow)
}

func (r *reader) unit() rune {
	var n rune
	for range 4 {
		n = n<<4 | r.digit()
	}
	return n
}

func (r *reader) digit() rune {
	b := r.next()
	digit := rune(0)
	switch {
	case '0' <= b && b <= '9':
		digit = rune(b - '0')
	case 'a' <= b && b <= 'f':
		digit = rune(b-'a') + 10
	case 'A' <= b && b <= 'F':
		digit = rune(b-'A') + 10
	default:
		r.fail(api.ErrForm)
		return 0
	}
	r.at++
	return digit
}
