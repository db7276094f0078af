// Package octet is layer 1: see shared/doc/01-octet.md.
package octet

import (
	"slices"
	"strings"

	"graftwood/api"
)

// table is made inside a function, as an array of 256 is too great for one at package level.
func table() [256]uint8 {
	const d, l, m = api.DigitC, api.LetterC, api.MarkC
	return [256]uint8{
		'\t': api.SpaceC, ' ': api.SpaceC, '\n': api.LineC,
		'"': api.QuoteC, '(': api.OpenC, ')': api.ShutC,
		'-': m, '.': m, '_': m, '~': m, '/': api.SlashC,
		'0': d, '1': d, '2': d, '3': d, '4': d, '5': d, '6': d, '7': d, '8': d, '9': d,
		'A': l, 'B': l, 'C': l, 'D': l, 'E': l, 'F': l, 'G': l, 'H': l, 'I': l, 'J': l, 'K': l, 'L': l, 'M': l,
		'N': l, 'O': l, 'P': l, 'Q': l, 'R': l, 'S': l, 'T': l, 'U': l, 'V': l, 'W': l, 'X': l, 'Y': l, 'Z': l,
		'a': l, 'b': l, 'c': l, 'd': l, 'e': l, 'f': l, 'g': l, 'h': l, 'i': l, 'j': l, 'k': l, 'l': l, 'm': l,
		'n': l, 'o': l, 'p': l, 'q': l, 'r': l, 's': l, 't': l, 'u': l, 'v': l, 'w': l, 'x': l, 'y': l, 'z': l,
	}
}

// Class is an octet's class.
func Class(c byte) int { return int(table()[c]) }

// In tells whether an octet is of one of classes.
func In(c byte, classes ...int) bool { return slices.Contains(classes, Class(c)) }

// All tells whether all octets are.
func All(s string, classes ...int) bool {
	// Classes are marked ahead, so that a long list of them is gone through once, not at each octet.
	var wanted [api.ShutC + 1]bool
	for _, k := range classes {
		if k >= 0 && k < len(wanted) {
			wanted[k] = true
		}
	}
	class := table()
	for i := range len(s) {
		if !wanted[class[s[i]]] {
			return false
		}
	}
	return true
}

// Cmp holds two texts against one another.
func Cmp(a, b string) int { return strings.Compare(a, b) }

// Common is how many octets two begin with together.
func Common(a, b string) int {
	n := min(len(a), len(b))
	for i := range n {
		if a[i] != b[i] {
			return i
		}
	}
	return n
}

// Parts are the parts of a text.
func Parts(s string, sep byte) []string {
	var parts []string
	start := 0
	// By octets, not by runes: sep may be one that is no rune of its own.
	for i := range len(s) {
		if s[i] == sep {
			parts = append(parts, s[start:i])
			start = i + 1
		}
	}
	return append(parts, s[start:])
}
