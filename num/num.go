// Package num is layer 1: numbers as bytes, the highest first, and sums that stay; see shared/doc/01-num.md.
package num

import (
	"math"
	"strings"

	"consort/api"
)

// most is how many bytes a number has at most.
const most = 8

// Put: new memory: b, and the number v of n bytes behind it.
func Put(b []byte, v uint64, n int) []byte {
	n = width(n)
	out := make([]byte, len(b), len(b)+n)
	copy(out, b)
	for i := range n {
		out = append(out, byte(v>>(8*(n-1-i))))
	}
	return out
}

// Get: the number of the n bytes of s from the place at on; false, if n isn't 1 to 8, or they aren't all there.
func Get(s string, at, n int) (uint64, bool) {
	// n is taken off len(s), and not put on at: at may be any number, and their sum would wrap round.
	if n < 1 || n > most || at < 0 || at > len(s)-n {
		return 0, false
	}
	return number(s[at : at+n]), true
}

// Sum: of a and b, which stays at the greatest number there is.
func Sum(a, b uint64) uint64 {
	if a > math.MaxUint64-b {
		return math.MaxUint64
	}
	return a + b
}

// Reader goes through bytes.
type Reader struct {
	s  string
	at int
}

// New: a reader of s, which stands at its first byte.
func New(s string) *Reader { return &Reader{s: s} }

// Num: the number of the next n bytes, which are gone past. It panics with api.ErrShort, where fewer are left.
func (r *Reader) Num(n int) uint64 { return number(r.pass(width(n))) }

// Text: the next n bytes, which are gone past. It panics with api.ErrShort, where fewer are left.
func (r *Reader) Text(n int) string {
	// A copy, lest a short text that somebody keeps hold all the bytes that it was read from.
	return strings.Clone(r.pass(max(n, 0)))
}

// Left: how many bytes are left.
func (r *Reader) Left() int { return len(r.s) - r.at }

// At: how many are gone past.
func (r *Reader) At() int { return r.at }

// pass goes past the next n bytes, and answers them; n isn't below 0.
func (r *Reader) pass(n int) string {
	if n > r.Left() {
		panic(api.ErrShort)
	}
	from := r.at
	r.at += n
	return r.s[from:r.at]
}

// width: how many bytes n counts as.
func width(n int) int { return min(max(n, 0), most) }

// number: the number that all bytes of s are.
func number(s string) uint64 {
	var v uint64
	for i := range len(s) {
		v = v<<8 | uint64(s[i])
	}
	return v
}
