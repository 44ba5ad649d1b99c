package host

import (
	"strconv"
	"strings"

	"ginnel/api"
	"ginnel/ip"
)

const maxPort = 65535

// ParsePort returns the port that s is the decimal notation of, or false if it is the notation of none.
func ParsePort(s string) (int, bool) {
	if s == "" || s[0] == '0' { // no port is 0, so a zero in front is always one too many
		return 0, false
	}
	n := 0
	for i := range len(s) {
		if !isDigit(s[i]) {
			return 0, false
		}
		n = 10*n + int(s[i]-'0')
		if n > maxPort { // checked for each digit, so that n cannot overflow
			return 0, false
		}
	}
	return n, true
}

// ParseTarget returns the target that s is written for: an IPv4 address, an IPv6 address in brackets or a host name, followed by a colon and a port.
func ParseTarget(s string) (api.Target, bool) {
	colon := strings.LastIndexByte(s, ':')
	if colon < 0 {
		return api.Target{}, false
	}
	t, ok := parseHost(s[:colon])
	port, portOK := ParsePort(s[colon+1:])
	if !ok || !portOK {
		return api.Target{}, false
	}
	t.Port = port
	return t, true
}

// parseHost parses what stands before the port, and leaves the port zero.
func parseHost(s string) (api.Target, bool) {
	if len(s) >= 2 && s[0] == '[' && s[len(s)-1] == ']' {
		return parseAddr(s[1:len(s)-1], true)
	}
	if t, ok := parseAddr(s, false); ok {
		return t, true
	}
	name, ok := ParseName(s)
	return api.Target{Name: name}, ok
}

// parseAddr parses an address of one family alone: brackets belong to IPv6 addresses and only to them.
func parseAddr(s string, v6 bool) (api.Target, bool) {
	a, ok := ip.Parse(s)
	if !ok || a.IPv6 != v6 {
		return api.Target{}, false
	}
	return api.Target{Addr: a}, true
}

// Valid reports whether t has a port, and either a host name or a valid address.
func Valid(t api.Target) bool {
	if t.Port < 1 || t.Port > maxPort {
		return false
	}
	if t.Name == "" {
		return ip.Valid(t.Addr)
	}
	return isName(t.Name) && t.Addr == api.Addr{}
}

// Format returns the notation of a valid target, which ParseTarget reads, or the empty string if t is not valid.
func Format(t api.Target) string {
	if !Valid(t) {
		return ""
	}
	return formatHost(t) + ":" + strconv.Itoa(t.Port)
}

func formatHost(t api.Target) string {
	switch {
	case t.Name != "":
		return t.Name
	case t.Addr.IPv6:
		return "[" + ip.Format(t.Addr) + "]"
	default:
		return ip.Format(t.Addr)
	}
}
