// Package addr is layer 1; see shared/doc/01-addr.md.
package addr

import (
	"cmp"
	"strconv"

	"busbar/api"
)

// letters holds the letter of each address space, indexed by the space.
var letters = [3]string{"I", "Q", "M"}

// CheckSize validates image sizes.
func CheckSize(s api.Size) api.Errno {
	if !within(s.I, api.MaxBits) || !within(s.Q, api.MaxBits) || !within(s.M, api.MaxBits) || !within(s.E, api.MaxSlots) {
		return api.ErrRange
	}
	return api.OK
}

// CheckAddr validates an address against image sizes.
func CheckAddr(s api.Size, a api.Addr) api.Errno {
	if !isSpace(a.Space) {
		return api.ErrKind
	}
	if a.N < 0 || a.N >= Width(s, a.Space) {
		return api.ErrRange
	}
	return api.OK
}

// Format returns the textual form of an address.
func Format(a api.Addr) string {
	if !isSpace(a.Space) || a.N < 0 || a.N >= api.MaxBits {
		return ""
	}
	return letters[a.Space] + strconv.Itoa(a.N)
}

// Parse parses the textual form of an address.
func Parse(t string) (api.Addr, api.Errno) {
	if t == "" {
		return api.Addr{}, api.ErrForm
	}
	space, ok := spaceOf(t[:1])
	if !ok {
		return api.Addr{}, api.ErrForm
	}
	n, e := parseNumber(t[1:])
	if e != api.OK {
		return api.Addr{}, e
	}
	return api.Addr{Space: space, N: n}, api.OK
}

// Compare orders addresses by space and number.
func Compare(a, b api.Addr) int {
	if c := cmp.Compare(a.Space, b.Space); c != 0 {
		return c
	}
	return cmp.Compare(a.N, b.N)
}

// Width returns the number of bits of an address space.
func Width(s api.Size, space int) int {
	switch space {
	case api.Input:
		return s.I
	case api.Output:
		return s.Q
	case api.Memory:
		return s.M
	}
	return 0
}

func within(n, most int) bool { return n >= 0 && n <= most }

func isSpace(space int) bool { return space >= 0 && space < len(letters) }

// spaceOf returns the address space of a letter.
func spaceOf(letter string) (int, bool) {
	for space, l := range letters {
		if l == letter {
			return space, true
		}
	}
	return 0, false
}

// parseNumber parses the number of an address.
func parseNumber(digits string) (int, api.Errno) {
	if !isDecimal(digits) {
		return 0, api.ErrForm
	}
	n := 0
	for i := 0; i < len(digits); i++ {
		n = 10*n + int(digits[i]-'0')
		// Stopping here keeps n from overflowing, however long the number is.
		if n >= api.MaxBits {
			return 0, api.ErrRange
		}
	}
	return n, api.OK
}

// isDecimal reports whether a text is a decimal number without leading zeros.
func isDecimal(t string) bool {
	if t == "" || len(t) > 1 && t[0] == '0' {
		return false
	}
	for i := 0; i < len(t); i++ {
		if t[i] < '0' || t[i] > '9' {
			return false
		}
	}
	return true
}
