// Package code is layer 1: see shared/doc/01-code.md.
package code

import (
	"strings"

	"penelope/api"
)

const (
	maxSize = 6     // bytes of a number: 48 bits, so that it never reaches an int's sign
	lenSize = 2     // bytes of a text's length
	maxText = 65535 // what lenSize bytes hold
)

// Put writes a number in so many bytes, the highest first; Text a text and its length ahead of it; All one behind the other.
func Put(n, size int) (string, api.Errno) {
	if !isSize(size) || n < 0 || n>>(8*size) != 0 {
		return "", api.ErrArg
	}
	b := make([]byte, size)
	for i := range size {
		b[size-1-i] = byte(n >> (8 * i))
	}
	return string(b), api.OK
}

func Text(s string) (string, api.Errno) {
	if len(s) > maxText {
		return "", api.ErrLong
	}
	n, _ := Put(len(s), lenSize) // a length up to maxText always fits
	return All(n, s), api.OK
}

func All(parts ...string) string {
	return strings.Join(parts, "")
}

// Get reads a number at a place; Cut a text: and tells the place behind it.
func Get(s string, at, size int) (int, int, api.Errno) {
	if !isSize(size) || at < 0 || at > len(s) {
		return 0, 0, api.ErrArg
	}
	// What is left is counted, not at+size: no sum of arguments can wrap round.
	if len(s)-at < size {
		return 0, 0, api.ErrShort
	}
	n := 0
	for i := range size {
		n = n<<8 | int(s[at+i])
	}
	return n, at + size, api.OK
}

func Cut(s string, at int) (string, int, api.Errno) {
	n, from, e := Get(s, at, lenSize)
	if e != api.OK {
		return "", 0, e
	}
	if len(s)-from < n {
		return "", 0, api.ErrShort
	}
	return s[from : from+n], from + n, api.OK
}

// Trim leaves out zeros at the end; Pad puts them there.
func Trim(s string) string {
	end := len(s)
	for end > 0 && s[end-1] == 0 {
		end--
	}
	return s[:end]
}

func Pad(s string, size int) (string, api.Errno) {
	if size < 0 || size > api.BlockSize {
		return "", api.ErrArg
	}
	if len(s) > size {
		return "", api.ErrLong
	}
	return All(s, strings.Repeat("\x00", size-len(s))), api.OK
}

func isSize(size int) bool {
	return size >= 1 && size <= maxSize
}
