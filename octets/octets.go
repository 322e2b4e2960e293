// Package octets is layer 1: see shared/doc/01-octets.md.
package octets

import (
	"math/bits"

	"primer/api"
)

const (
	below    = 128 // what the first byte of a number below 0 has more
	mostWide = 7   // the bytes that may follow a number's first one
)

// Put: a number's bytes.
func Put(n int) string {
	if n < -api.MaxNumber || n > api.MaxNumber {
		return ""
	}
	var b [1 + mostWide]byte
	size := n
	if n < 0 {
		size = -n
		b[0] = below
	}
	wide := (bits.Len(uint(size)) + 7) / 8
	b[0] += byte(wide)
	for k := range wide {
		b[wide-k] = byte(size >> (8 * k))
	}
	return string(b[:1+wide])
}

// Get: the number at the beginning of bytes, and how many it takes.
func Get(s string) (int, int, api.Errno) {
	if s == "" {
		return 0, 0, api.ErrShort
	}
	minus := s[0] >= below
	wide := int(s[0] % below)
	if wide > mostWide || minus && wide == 0 {
		return 0, 0, api.ErrForm
	}
	if len(s) <= wide {
		return 0, 0, api.ErrShort
	}
	n := 0
	for k := range wide {
		n = n<<8 | int(s[1+k])
	}
	if wide > 0 && s[1] == 0 || n > api.MaxNumber {
		return 0, 0, api.ErrForm
	}
	if minus {
		n = -n
	}
	return n, 1 + wide, api.OK
}
