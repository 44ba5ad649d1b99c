package ip

import (
	"strconv"
	"strings"

	"ginnel/api"
)

// Format writes a in its usual notation. It returns the empty string if a is not valid.
func Format(a api.Addr) string {
	switch {
	case !Valid(a):
		return ""
	case a.IPv6:
		return formatV6(a)
	default:
		return formatV4(a)
	}
}

func formatV4(a api.Addr) string {
	var numbers [v4Size]string
	for i := range numbers {
		numbers[i] = strconv.Itoa(int(a.Bytes[i]))
	}
	return strings.Join(numbers[:], ".")
}

func formatV6(a api.Addr) string {
	groups := groupsOf(a)
	start, length := longestZeros(groups)
	if length < 2 { // "::" would not be shorter than a single zero group
		return joinGroups(groups[:])
	}
	return joinGroups(groups[:start]) + "::" + joinGroups(groups[start+length:])
}

func groupsOf(a api.Addr) [groupCount]uint16 {
	var groups [groupCount]uint16
	for i := range groups {
		groups[i] = uint16(a.Bytes[2*i])<<8 | uint16(a.Bytes[2*i+1])
	}
	return groups
}

// longestZeros returns the start and the length of the longest run of zero groups, the first of several.
func longestZeros(groups [groupCount]uint16) (start, length int) {
	run := 0 // zero groups up to and including group i
	for i, g := range groups {
		if g != 0 {
			run = 0
			continue
		}
		run++
		if run > length {
			start, length = i+1-run, run
		}
	}
	return start, length
}

func joinGroups(groups []uint16) string {
	var texts []string
	for _, g := range groups {
		texts = append(texts, strconv.FormatUint(uint64(g), 16))
	}
	return strings.Join(texts, ":")
}
