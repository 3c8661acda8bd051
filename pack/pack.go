// Package pack is layer 1: numbers and texts as bytes.
package pack

import "slices"

const (
	maxNum    = 1 << 62 // the greatest number that has bytes
	pieceBits = 7       // bits of a number that one byte holds
	pieceMask = 1<<pieceBits - 1
	moreBit   = 1 << pieceBits // set in each byte of a number but the last
)

// Packer lays numbers and texts one behind the other; the zero Packer is empty.
type Packer struct {
	// A string, not a slice of bytes: a copy of a Packer must not be
	// overwritten by what is laid by the other one.
	laid string
	bad  bool
}

// Num lays a number; one that has no bytes spoils the Packer for good.
func (p *Packer) Num(n int) *Packer {
	if p == nil {
		return nil
	}
	if n < 0 || n > maxNum {
		p.laid, p.bad = "", true
		return p
	}
	return p.lay(numBytes(n))
}

// Text lays how many bytes s has, and these.
func (p *Packer) Text(s string) *Packer {
	return p.lay(numBytes(len(s)) + s)
}

// Raw lays the bytes of s alone.
func (p *Packer) Raw(s string) *Packer {
	return p.lay(s)
}

// String answers all that was laid, or "" if the Packer isn't OK.
func (p *Packer) String() string {
	if !p.OK() {
		return ""
	}
	return p.laid
}

// OK tells whether every number that was to be laid has bytes.
func (p *Packer) OK() bool {
	return p != nil && !p.bad
}

func (p *Packer) lay(s string) *Packer {
	if p.OK() {
		p.laid += s
	}
	return p
}

// numBytes expects n from 0 to maxNum.
func numBytes(n int) string {
	b := []byte{byte(n & pieceMask)}
	for n >>= pieceBits; n > 0; n >>= pieceBits {
		b = append(b, byte(n&pieceMask|moreBit))
	}
	slices.Reverse(b)
	return string(b)
}

// Opener reads what a Packer laid.
type Opener struct {
	rest string
	bad  bool
}

// Open begins to read s.
func Open(s string) *Opener {
	return &Opener{rest: s}
}

// Num reads the next number, which is at most most.
func (o *Opener) Num(most int) int {
	if !o.OK() {
		return 0
	}
	n, size := headNum(o.rest)
	if size == 0 || n > most {
		o.spoil()
		return 0
	}
	o.rest = o.rest[size:]
	return n
}

// Text reads the next text, which has at most most bytes.
func (o *Opener) Text(most int) string {
	// A length that isn't there spoils the Opener, of which Raw(0) is "" as well.
	return o.Raw(o.Num(most))
}

// Raw reads the next n bytes; none, if n is below 0.
func (o *Opener) Raw(n int) string {
	if !o.OK() || n < 0 {
		return ""
	}
	if n > len(o.rest) {
		o.spoil()
		return ""
	}
	s := o.rest[:n]
	o.rest = o.rest[n:]
	return s
}

// Left answers how many bytes aren't read.
func (o *Opener) Left() int {
	if !o.OK() {
		return 0
	}
	return len(o.rest)
}

// Done tells whether all was read, and all of it was as it was asked for.
func (o *Opener) Done() bool {
	return o.OK() && o.rest == ""
}

// OK tells whether all that was read was as it was asked for.
func (o *Opener) OK() bool {
	return o != nil && !o.bad
}

func (o *Opener) spoil() {
	o.rest, o.bad = "", true
}

// headNum answers the number that s begins with and how many bytes it has: 0, if s begins with none.
func headNum(s string) (n, size int) {
	if s != "" && s[0] == moreBit {
		return 0, 0 // a highest piece of 0: more bytes than the number takes
	}
	for i := range len(s) {
		// Held against the limit ahead of the shift as well, so that n never goes round.
		if n > maxNum>>pieceBits {
			return 0, 0
		}
		n = n<<pieceBits | int(s[i]&pieceMask)
		if n > maxNum {
			return 0, 0
		}
		if s[i] < moreBit {
			return n, i + 1
		}
	}
	return 0, 0
}
