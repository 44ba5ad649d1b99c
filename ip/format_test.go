package ip

import (
	"fmt"
	"testing"

	"ginnel/api"
)

// P7.2

func TestFormatIPv4(t *testing.T) {
	for _, c := range []struct {
		a    api.Addr
		want string
	}{
		{api.Addr{}, "0.0.0.0"},
		{V4(1, 2, 3, 4), "1.2.3.4"},
		{V4(0, 9, 10, 99), "0.9.10.99"},
		{V4(100, 199, 200, 255), "100.199.200.255"},
		{V4(255, 255, 255, 255), "255.255.255.255"},
	} {
		if got := Format(c.a); got != c.want {
			t.Errorf("Format(%v) = %q, want %q", c.a, got, c.want)
		}
	}
}

func TestFormatOfAnInvalidAddress(t *testing.T) {
	for i := 4; i < 16; i++ {
		if got := Format(withTail(i)); got != "" {
			t.Errorf("Format of an address whose byte %d is not zero = %q, want the empty string", i, got)
		}
	}
}

func TestFormatIPv6(t *testing.T) {
	for _, c := range []struct {
		groups [8]uint16
		want   string
	}{
		{[8]uint16{1, 2, 3, 4, 5, 6, 7, 8}, "1:2:3:4:5:6:7:8"},
		{[8]uint16{0xa, 0xab, 0xabc, 0xabcd, 0xf000, 0x10, 0x100, 0xffff}, "a:ab:abc:abcd:f000:10:100:ffff"},
		// one zero group alone, everywhere
		{[8]uint16{0, 2, 3, 4, 5, 6, 7, 8}, "0:2:3:4:5:6:7:8"},
		{[8]uint16{1, 2, 3, 0, 5, 6, 7, 8}, "1:2:3:0:5:6:7:8"},
		{[8]uint16{1, 2, 3, 4, 5, 6, 7, 0}, "1:2:3:4:5:6:7:0"},
		{[8]uint16{0, 2, 0, 4, 0, 6, 0, 8}, "0:2:0:4:0:6:0:8"},
		// one run
		{[8]uint16{0, 0, 3, 4, 5, 6, 7, 8}, "::3:4:5:6:7:8"},
		{[8]uint16{1, 2, 3, 0, 0, 6, 7, 8}, "1:2:3::6:7:8"},
		{[8]uint16{1, 2, 3, 4, 5, 6, 0, 0}, "1:2:3:4:5:6::"},
		{[8]uint16{0, 0, 0, 0, 0, 0, 0, 8}, "::8"},
		{[8]uint16{1, 0, 0, 0, 0, 0, 0, 8}, "1::8"},
		{[8]uint16{1, 0, 0, 0, 0, 0, 0, 0}, "1::"},
		{[8]uint16{}, "::"},
		// two runs of the same length
		{[8]uint16{0, 0, 3, 0, 0, 6, 7, 8}, "::3:0:0:6:7:8"},
		{[8]uint16{1, 0, 0, 4, 5, 6, 0, 0}, "1::4:5:6:0:0"},
		{[8]uint16{0, 0, 0, 4, 5, 0, 0, 0}, "::4:5:0:0:0"},
		{[8]uint16{0, 0, 3, 0, 0, 6, 0, 0}, "::3:0:0:6:0:0"},
		// a longer run before or behind a shorter one
		{[8]uint16{0, 0, 0, 4, 5, 6, 0, 0}, "::4:5:6:0:0"},
		{[8]uint16{0, 0, 3, 4, 5, 0, 0, 0}, "0:0:3:4:5::"},
		{[8]uint16{0, 2, 0, 0, 0, 6, 0, 0}, "0:2::6:0:0"},
		{[8]uint16{0, 0, 3, 0, 0, 0, 7, 0}, "0:0:3::7:0"},
		// a mapped address has no notation of its own
		{[8]uint16{0, 0, 0, 0, 0, 0xffff, 0xa00, 1}, "::ffff:a00:1"},
		// a group is zero only if both of its bytes are
		{[8]uint16{0x100, 0, 0x100, 1, 0x10, 0, 0, 0x8000}, "100:0:100:1:10::8000"},
	} {
		a := six(t, c.groups[:]...)
		if got := Format(a); got != c.want {
			t.Errorf("Format of the groups %x = %q, want %q", c.groups, got, c.want)
		}
	}
}

// patterns calls f with the groups of each of the 256 choices of zero groups.
func patterns(f func(groups [8]uint16)) {
	for zeros := range 256 {
		var groups [8]uint16
		for i := range groups {
			if zeros>>i&1 == 0 {
				groups[i] = []uint16{1, 0xff, 0xabc, 0x1000, 0x10, 0xffff, 0x100, 8}[i]
			}
		}
		f(groups)
	}
}

// notation writes groups with "::" in place of the longest run of zeros: it tries all runs, the longest first and then the first ones first.
func notation(groups [8]uint16) string {
	for length := 8; length >= 2; length-- {
		for start := 0; start+length <= 8; start++ {
			run := true
			for _, g := range groups[start : start+length] {
				run = run && g == 0
			}
			if run {
				return colons(groups[:start]) + "::" + colons(groups[start+length:])
			}
		}
	}
	return colons(groups[:])
}

func colons(groups []uint16) string {
	s := ""
	for i, g := range groups {
		if i > 0 {
			s += ":"
		}
		s += fmt.Sprintf("%x", g)
	}
	return s
}

func TestFormatOfAllZeroPatterns(t *testing.T) {
	patterns(func(groups [8]uint16) {
		if got, want := Format(six(t, groups[:]...)), notation(groups); got != want {
			t.Errorf("Format of the groups %x = %q, want %q", groups, got, want)
		}
	})
}

// The section "Consequences" of the chapter.

func TestParseUndoesFormat(t *testing.T) {
	check := func(a api.Addr) {
		t.Helper()
		if b, ok := Parse(Format(a)); b != a || !ok {
			t.Errorf("Parse(%q) = %v, %v, want %v, true", Format(a), b, ok, a)
		}
	}
	patterns(func(groups [8]uint16) { check(six(t, groups[:]...)) })
	for _, a := range samples(t) {
		if Valid(a) {
			check(a)
		}
	}
	for x := range 256 {
		check(V4(byte(x), 0, byte(255-x), 7))
		check(V4(0, byte(x), 8, byte(x)))
	}
	for x := range 1 << 16 {
		check(six(t, 0, uint16(x), 0, 0, 5, 0, 0, ^uint16(x)))
	}
}
