package ip

import (
	"slices"
	"strconv"
	"strings"

	"ginnel/api"
)

// Parse returns the address that s is written for, or false if s is the notation of no address.
func Parse(s string) (api.Addr, bool) {
	if strings.Contains(s, ":") { // every IPv6 address has a colon, and no IPv4 address has one
		return parseV6(s)
	}
	return parseV4(s)
}

func parseV4(s string) (api.Addr, bool) {
	var numbers [v4Size]byte
	for i := range numbers {
		text, rest, more := strings.Cut(s, ".")
		n, ok := parseByte(text)
		if !ok || more != (i < v4Size-1) {
			return api.Addr{}, false
		}
		numbers[i], s = n, rest
	}
	return V4(numbers[0], numbers[1], numbers[2], numbers[3]), true
}

// parseByte parses a decimal number from 0 to 255 without leading zeros.
func parseByte(s string) (byte, bool) {
	if len(s) > 1 && s[0] == '0' {
		return 0, false
	}
	n, err := strconv.ParseUint(s, 10, 8)
	if err != nil {
		return 0, false
	}
	return byte(n), true
}

func parseV6(s string) (api.Addr, bool) {
	before, after, short := strings.Cut(s, "::")
	head, headOK := parseGroups(before, !short) // an IPv4 address must end the whole string, not only the part before "::"
	tail, tailOK := parseGroups(after, true)    // a second "::" shows there as an empty group
	if !headOK || !tailOK {
		return api.Addr{}, false
	}
	if short {
		zeros := groupCount - len(head) - len(tail)
		if zeros < 1 {
			return api.Addr{}, false
		}
		tail = append(make([]uint16, zeros), tail...)
	}
	return V6(slices.Concat(head, tail)...)
}

// parseGroups parses groups that are separated by colons; an empty string has none. If mixed is set, the last two may be written as an IPv4 address.
func parseGroups(s string, mixed bool) ([]uint16, bool) {
	var groups []uint16
	for more := s != ""; more; {
		var text string
		text, s, more = strings.Cut(s, ":")
		if mixed && !more && strings.Contains(text, ".") {
			return appendV4(groups, text)
		}
		g, ok := parseGroup(text)
		if !ok || len(groups) == groupCount { // no address has more groups, so the rest of a long string need not be read
			return nil, false
		}
		groups = append(groups, g)
	}
	return groups, true
}

// appendV4 appends the two groups that the IPv4 address s stands for.
func appendV4(groups []uint16, s string) ([]uint16, bool) {
	a, ok := parseV4(s)
	if !ok {
		return nil, false
	}
	last := groupsOf(a)
	return append(groups, last[0], last[1]), true
}

// parseGroup parses one to four hexadecimal digits of either case.
func parseGroup(s string) (uint16, bool) {
	if len(s) > 4 {
		return 0, false
	}
	n, err := strconv.ParseUint(s, 16, 16)
	if err != nil {
		return 0, false
	}
	return uint16(n), true
}
