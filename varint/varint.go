// Package varint writes and reads numbers of a variable length (layer 1).
package varint

import (
	"shuttlecock/api"
)

// Nine groups of seven bits are 63 bits, one more than a number has: the ninth byte stays below lastMost.
const (
	longest  = 9
	lastMost = 64
	more     = 128
)

// Put answers the empty string for a number that has no encoding.
func Put(n int) string {
	if !may(n) {
		return ""
	}
	var out []byte
	for n >= more {
		out = append(out, byte(n%more)+more)
		n /= more
	}
	return string(append(out, byte(n)))
}

// Take reads the number whose Put stands in s at position at.
func Take(s string, at int) (int, int, api.Errno) {
	if at < 0 || at > len(s) {
		return 0, 0, api.ErrArg
	}
	n := 0
	for i := range longest {
		if at+i == len(s) {
			return 0, 0, api.ErrShort
		}
		c := int(s[at+i])
		if i == longest-1 && c >= lastMost {
			break
		}
		n += (c % more) << (7 * i)
		if c >= more {
			continue
		}
		// A highest group of 0 is one that a shorter encoding leaves away.
		if c == 0 && i > 0 {
			break
		}
		return n, at + i + 1, api.OK
	}
	return 0, 0, api.ErrLong
}

// Len answers the length of Put.
func Len(n int) int {
	if !may(n) {
		return 0
	}
	l := 1
	for n >= more {
		n /= more
		l++
	}
	return l
}

func may(n int) bool {
	return n >= 0 && n < api.Most
}
