package ip

import (
	"fmt"
	"regexp"
	"strconv"
	"strings"
	"testing"

	"ginnel/api"
)

func accept(t *testing.T, s string, want api.Addr) {
	t.Helper()
	if a, ok := Parse(s); a != want || !ok {
		t.Errorf("Parse(%q) = %v, %v, want %v, true", s, a, ok, want)
	}
}

func reject(t *testing.T, list ...string) {
	t.Helper()
	for _, s := range list {
		if a, ok := Parse(s); a != (api.Addr{}) || ok {
			t.Errorf("Parse(%q) = %v, %v, want a zero address and false", s, a, ok)
		}
	}
}

// P7.3: IPv4

func TestParseIPv4(t *testing.T) {
	accept(t, "1.2.3.4", V4(1, 2, 3, 4))
	accept(t, "0.0.0.0", V4(0, 0, 0, 0))
	accept(t, "255.255.255.255", V4(255, 255, 255, 255))
	accept(t, "10.20.199.200", V4(10, 20, 199, 200))
	accept(t, "249.250.100.9", V4(249, 250, 100, 9))
}

// Each number of each place, from 0 on to beyond 255.
func TestParseIPv4Numbers(t *testing.T) {
	for n := range 1100 {
		for i := range 4 {
			parts := []string{"7", "0", "255", "19"}
			parts[i] = strconv.Itoa(n)
			s := strings.Join(parts, ".")
			if n > 255 {
				reject(t, s)
				continue
			}
			want := V4(7, 0, 255, 19)
			want.Bytes[i] = byte(n)
			accept(t, s, want)
		}
	}
}

// Whatever is no number from 0 to 255 without leading zeros is none at any place.
func TestParseIPv4RejectsOtherNumbers(t *testing.T) {
	for _, bad := range []string{
		"", "00", "01", "001", "000", "010", "0255", "00000000000001", "256", "260", "300", "999", "1000", "65536", "4294967296", "4294967297", "18446744073709551616", "18446744073709551617",
		"+1", "-1", "-0", " 1", "1 ", "1_0", "1e1", "0x1", "0b1", "a", "f", "1a", "/", "\x00", "1\x00", "\u0661", "\uff11",
	} {
		for i := range 4 {
			parts := []string{"1", "2", "3", "4"}
			parts[i] = bad
			s := strings.Join(parts, ".")
			reject(t, s, "::"+s, "1:2:3:4:5:6:"+s)
		}
	}
}

func TestParseIPv4CountsTheNumbers(t *testing.T) {
	for n := range 12 {
		s := strings.TrimSuffix(strings.Repeat("1.", n), ".")
		if n == 4 {
			accept(t, s, V4(1, 1, 1, 1))
		} else {
			reject(t, s)
		}
	}
	reject(t, ".", "..", "...", "....", "1.2.3.", ".1.2.3", "1.2.3.4.", ".1.2.3.4", "1..2.3", "1..2.3.4", "1.2.3..4", "1.2.3.4.5", "1.2.3.4.256", "1234", "16909060", "1,2,3,4")
}

// P7.3: IPv6

func TestParseIPv6(t *testing.T) {
	accept(t, "1:2:3:4:5:6:7:8", six(t, 1, 2, 3, 4, 5, 6, 7, 8))
	accept(t, "2001:db8::abc", six(t, 0x2001, 0xdb8, 0, 0, 0, 0, 0, 0xabc))
	accept(t, "ffff:FFFF:aAaA:0123:4567:89ab:cdef:CDEF", six(t, 0xffff, 0xffff, 0xaaaa, 0x123, 0x4567, 0x89ab, 0xcdef, 0xcdef))
	accept(t, "0:00:000:0000:1:01:001:0001", six(t, 0, 0, 0, 0, 1, 1, 1, 1))
	accept(t, "0:0::0", six(t, 0, 0, 0, 0, 0, 0, 0, 0))
}

// Each digit of either case, and every byte that is none.
func TestParseIPv6Digits(t *testing.T) {
	const digits = "0123456789abcdef"
	for c := range 256 {
		text := string([]byte{byte(c)})
		value := strings.Index(digits, strings.ToLower(text))
		if c == ':' || c == '.' {
			continue
		}
		for _, around := range [][2]string{{"", ""}, {"1", ""}, {"", "2"}, {"1", "2"}} {
			group := around[0] + text + around[1]
			s := "9:" + group + "::" + group
			if value < 0 || c >= 128 {
				reject(t, s)
				continue
			}
			g, err := strconv.ParseUint(around[0]+digits[value:value+1]+around[1], 16, 16)
			if err != nil {
				t.Fatal(err)
			}
			accept(t, s, six(t, 9, uint16(g), 0, 0, 0, 0, 0, uint16(g)))
		}
	}
}

func TestParseIPv6DigitCounts(t *testing.T) {
	for i := range 8 {
		for text, g := range map[string]uint16{"f": 0xf, "0": 0, "Ab": 0xab, "00": 0, "cD9": 0xcd9, "00e": 0xe, "8001": 0x8001, "00Ff": 0xff, "0000": 0, "FFFF": 0xffff} {
			parts := strings.Split("1:2:3:4:5:6:7:8", ":")
			parts[i] = text
			groups := []uint16{1, 2, 3, 4, 5, 6, 7, 8}
			groups[i] = g
			accept(t, strings.Join(parts, ":"), six(t, groups...))
		}
		for _, text := range []string{"", "12345", "00000", "00001", "fffff", "10000", "000000000000000001", "g", "-1", "+1", "0x1", "1_1", " 1", "1 ", "1.2", "1."} {
			parts := strings.Split("1:2:3:4:5:6:7:8", ":")
			parts[i] = text
			if s := strings.Join(parts, ":"); !strings.Contains(s, "::") {
				reject(t, s)
			}
		}
	}
	reject(t, "12345::", "::12345", "00000::", "::00000", "1::10000:2")
}

// numbers returns the groups from, from+1, .. to.
func numbers(from, to int) []uint16 {
	var l []uint16
	for i := from; i <= to; i++ {
		l = append(l, uint16(i))
	}
	return l
}

func TestParseIPv6CountsTheGroups(t *testing.T) {
	for n := 1; n <= 12; n++ {
		s := colons(numbers(1, n))
		if n == 8 {
			accept(t, s, six(t, 1, 2, 3, 4, 5, 6, 7, 8))
		} else {
			reject(t, s)
		}
		reject(t, ":"+s, s+":", ":"+s+":")
	}
}

// "::" at every position among every number of groups.
func TestParseIPv6Short(t *testing.T) {
	for before := range 11 {
		for after := range 11 {
			head, tail := numbers(1, before), numbers(0xa1, 0xa0+after)
			s := colons(head) + "::" + colons(tail)
			if before+after > 7 {
				reject(t, s)
				continue
			}
			var groups [8]uint16
			copy(groups[:], head)
			copy(groups[8-after:], tail)
			accept(t, s, six(t, groups[:]...))
			reject(t, ":"+s, s+":", "::"+s, s+"::", "1:::"+colons(tail))
		}
	}
}

func TestParseIPv6ShortTwice(t *testing.T) {
	for a := range 4 {
		for b := range 4 {
			for c := range 4 {
				reject(t, colons(numbers(1, a))+"::"+colons(numbers(1, b))+"::"+colons(numbers(1, c)))
			}
		}
	}
}

// An IPv4 address behind every number of groups, with "::" at every position and without it.
func TestParseIPv6WithTrailingIPv4(t *testing.T) {
	for before := range 10 {
		for after := range 10 {
			head, tail := numbers(1, before), numbers(0xa1, 0xa0+after)
			s := colons(head) + "::" + colons(tail) + ":1.20.255.0"
			if after == 0 {
				s = colons(head) + "::1.20.255.0"
			}
			if before+after > 5 {
				reject(t, s)
				continue
			}
			var groups [8]uint16
			copy(groups[:], head)
			copy(groups[6-after:], tail)
			groups[6], groups[7] = 0x114, 0xff00
			accept(t, s, six(t, groups[:]...))
		}
	}
	for n := 1; n < 12; n++ {
		s := colons(numbers(1, n)) + ":1.20.255.0"
		if n == 6 {
			accept(t, s, six(t, 1, 2, 3, 4, 5, 6, 0x114, 0xff00))
		} else {
			reject(t, s)
		}
	}
}

func TestParseIPv4MustEndTheString(t *testing.T) {
	reject(t,
		"1.2.3.4:", "1.2.3.4::", "1.2.3.4::1", "1.2.3.4:1::", "1:1.2.3.4::", "1:1.2.3.4::2", "::1.2.3.4:5", "::1.2.3.4:", "::1.2.3.4::", "::1.2.3.4:1.2.3.4", "1.2.3.4::1.2.3.4", "::1.2.3.4 ",
		"1.2.3.4:1:2:3:4:5:6", "1:2:3:4:5:1.2.3.4:6", "1:2:3:4:5:6:1.2.3.4:", "1:2:3:4:5:6:1.2.3.4::", "1:2:3:4:5:6:1.2.3.4:7", ":1.2.3.4", "1:2:3:4:5:6:1.2.3.4.5", "::1.2.3", "::1.2.3.", "::.1.2.3", "::1.2", "::.", "1.::", ".::",
	)
}

func TestParseRejectsOtherStrings(t *testing.T) {
	reject(t,
		"", " ", "0", "1", "a", "localhost", ":", ":::", "::::", "1:", ":1", ":1:", "1:::", ":::1", "1:::2", "::1%eth0", "1::%1", "[::1]", "[::]", "::1/128", "1.2.3.4/32", "1.2.3.4:80", " ::", ":: ", ": :", "::\x00", "\x00::", "::1\n",
		"1.2.3.4\n", "::ffff:1.2.3.256", "::ffff:01.2.3.4", "\uff1a\uff1a1", "1;2:3:4:5:6:7:8", "1-2-3-4-5-6-7-8",
	)
}

// A string of any length is rejected, not only those around the length of an address.
func TestParseLongStrings(t *testing.T) {
	const n = 1 << 20
	for _, part := range []string{"1", "0", "f", ":", "::", ".", "1:", ":1", "1::", "1.", "0.", "255.", "1.2.3.4:", "\xff"} {
		s := strings.Repeat(part, n)
		reject(t, s, "::"+s, s+"::", "1."+s, "::1.2.3."+s)
	}
}

// ipv4 and ipv6 are the grammars of RFC 3986 (section 3.2.2), which accept the strings of P7.3.
var (
	ipv4 = regexp.MustCompile(`^` + dotted + `$`)
	ipv6 = regexp.MustCompile(`^(` + strings.Join(sixGrammar(), `|`) + `)$`)
)

const (
	octet  = `(25[0-5]|2[0-4][0-9]|1[0-9][0-9]|[1-9][0-9]|[0-9])`
	dotted = octet + `(\.` + octet + `){3}`
	h16    = `[0-9a-fA-F]{1,4}`
	ls32   = `(` + h16 + `:` + h16 + `|` + dotted + `)`
)

func sixGrammar() []string {
	forms := []string{`(` + h16 + `:){6}` + ls32, `::(` + h16 + `:){5}` + ls32}
	for k := range 5 {
		forms = append(forms, fmt.Sprintf(`((%s:){0,%d}%s)?::(%s:){%d}%s`, h16, k, h16, h16, 4-k, ls32))
	}
	return append(forms,
		fmt.Sprintf(`((%s:){0,5}%s)?::%s`, h16, h16, h16),
		fmt.Sprintf(`((%s:){0,6}%s)?::`, h16, h16))
}

// checkGrammar parses s and holds the answer against the grammar.
func checkGrammar(t *testing.T, s string) {
	t.Helper()
	a, ok := Parse(s)
	want := ipv4.MatchString(s) || ipv6.MatchString(s)
	switch {
	case ok != want:
		t.Errorf("Parse(%q) returns %v, want %v", s, ok, want)
	case !ok && a != (api.Addr{}):
		t.Errorf("Parse(%q) = %v, want a zero address beside false", s, a)
	case ok && (!Valid(a) || a.IPv6 != ipv6.MatchString(s)):
		t.Errorf("Parse(%q) = %v, an address of the wrong family", s, a)
	}
}

// Every string of up to ten parts between colons, of which each is empty, a group or an IPv4 address.
func TestParseEveryArrangement(t *testing.T) {
	var extend func(s string, parts int)
	extend = func(s string, parts int) {
		for _, part := range []string{"", "a0", "1.2.3.4"} {
			checkGrammar(t, s+part)
			if parts > 1 {
				extend(s+part+":", parts-1)
			}
		}
	}
	extend("", 10)
}

// Every string of up to seven of the bytes that an address may hold.
func TestParseEveryShortString(t *testing.T) {
	var extend func(s string, n int)
	extend = func(s string, n int) {
		checkGrammar(t, s)
		if n == 0 {
			return
		}
		for _, c := range []string{"0", "1", "b", ":", "."} {
			extend(s+c, n-1)
		}
	}
	extend("", 7)
}

// Addresses of which one byte is removed, replaced or inserted.
func TestParseNearAddresses(t *testing.T) {
	for _, s := range []string{
		"1.2.3.4", "10.200.255.0", "::", "::1", "2001:db8::1:0:0:1", "1:2:3:4:5:6:7:8", "1:2:3:4:5:6:7::", "::2:3:4:5:6:7:8", "::ffff:10.0.0.1", "1:2:3:4:5:6:1.2.3.4", "1:2:3::5:1.2.3.4", "ABCD:ef01:2345:6789:abcd:EF01:2345:6789",
	} {
		checkGrammar(t, s)
		for i := range len(s) + 1 {
			for _, c := range []string{"", "0", "2", "5", "a", "F", "g", ":", "::", ".", "-", "%", " ", "\x00"} {
				checkGrammar(t, s[:i]+c+s[i:])
				if i < len(s) {
					checkGrammar(t, s[:i]+c+s[i+1:])
				}
			}
		}
	}
}
