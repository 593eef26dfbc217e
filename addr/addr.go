// Package addr is layer 1: see shared/doc/01-addr.md.
package addr

import (
	"strconv"
	"strings"

	"stolon/api"
)

// size is how many bytes an address has.
const size = 4

const (
	firstGroup api.Addr = 224 << 24
	lastLocal  api.Addr = 224<<24 | 255
	lastGroup  api.Addr = 239<<24 | 255<<16 | 255<<8 | 255
)

// Text is an address's text.
func Text(a api.Addr) string {
	b := Bytes(a)
	part := func(i int) string { return strconv.Itoa(int(b[i])) }
	text := part(0)
	for i := 1; i < size; i++ {
		text += "." + part(i)
	}
	return text
}

// Parse is the address of a text.
func Parse(s string) (api.Addr, api.Errno) {
	next := parts(s)
	b := make([]byte, 0, size)
	for part, ok := next(); ok; part, ok = next() {
		n, digits := number(part)
		if digits == 0 || digits < len(part) || len(b) == size {
			return 0, api.ErrForm
		}
		b = append(b, n)
	}
	if len(b) < size {
		return 0, api.ErrForm
	}
	return Of(b)
}

// parts tells what stands between a text's points, one part a call; none is left, where it tells no.
func parts(s string) func() (string, bool) {
	left := true
	return func() (string, bool) {
		if !left {
			return "", false
		}
		var part string
		part, s, left = strings.Cut(s, ".")
		return part, true
	}
}

// number reads the longest number of a byte, without a nought ahead, that s begins with; and how many digits it has.
func number(s string) (byte, int) {
	n, digits := 0, 0
read:
	for digits < len(s) {
		c := s[digits]
		switch {
		case c < '0' || c > '9':
			break read
		case digits > 0 && n == 0:
			break read
		case n*10+int(c-'0') > 255:
			break read
		}
		n = n*10 + int(c-'0')
		digits++
	}
	return byte(n), digits
}

// IsGroup: is it a group?
func IsGroup(a api.Addr) bool { return firstGroup <= a && a <= lastGroup }

// IsLocal: is it a local one?
func IsLocal(a api.Addr) bool { return firstGroup <= a && a <= lastLocal }

// IsAsked: is it one that is asked about?
func IsAsked(a api.Addr) bool { return IsGroup(a) && !IsLocal(a) }

// Bytes are its four bytes.
func Bytes(a api.Addr) []byte {
	return []byte{byte(a >> 24), byte(a >> 16), byte(a >> 8), byte(a)}
}

// Of is the address of bytes.
func Of(b []byte) (api.Addr, api.Errno) {
	if len(b) < size {
		return 0, api.ErrMore
	}
	if len(b) > size {
		return 0, api.ErrForm
	}
	a := api.Addr(0)
	for _, x := range b {
		a = a<<8 | api.Addr(x)
	}
	return a, api.OK
}

// Less: is the first one the lesser one?
func Less(a, b api.Addr) bool { return a < b }
