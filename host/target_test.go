package host

import (
	"math"
	"strconv"
	"strings"
	"testing"

	"ginnel/api"
	"ginnel/ip"
)

// six returns the IPv6 address with the given groups.
func six(t *testing.T, l ...uint16) api.Addr {
	t.Helper()
	a, ok := ip.V6(l...)
	if !ok {
		t.Fatalf("V6(%x) returns false", l)
	}
	return a
}

func wantTarget(t *testing.T, s string, want api.Target) {
	t.Helper()
	if got, ok := ParseTarget(s); got != want || !ok {
		t.Errorf("ParseTarget(%q) = %v, %v, want %v", s, got, ok, want)
	}
}

func wantNoTarget(t *testing.T, s string) {
	t.Helper()
	if got, ok := ParseTarget(s); got != (api.Target{}) || ok {
		t.Errorf("ParseTarget(%q) = %v, %v, want false", s, got, ok)
	}
}

// badNames returns strings that are not empty and that are no host names.
func badNames() []string {
	return []string{".", "A", "a.B", "a.", ".a", "a..b", "-a", "a-", "1", "a.1", "1.2.3.4", "::1", "[::1]", "a_b", "a b", "a:1", "\u212a", "\x00", strings.Repeat("a", 64), nameOfSize(254)}
}

// P8.2: ParsePort

func TestParsePortOfEveryNumber(t *testing.T) {
	for n := -70000; n <= 70000; n++ {
		want, wantOK := 0, false
		if n >= 1 && n <= 65535 {
			want, wantOK = n, true
		}
		if got, ok := ParsePort(strconv.Itoa(n)); got != want || ok != wantOK {
			t.Errorf("ParsePort(%d) = %d, %v", n, got, ok)
		}
	}
}

func TestParsePortRejects(t *testing.T) {
	for _, s := range []string{
		"", "0", "00", "01", "080", "000443", "065535", "+1", "-1", "+0", "-0", "+", "-", " 1", "1 ", "1\n", "\x001", "1\x00",
		"65536", "65540", "66000", "70000", "99999", "100000", "655350", "8a", "a8", "8_0", "1.", "1.0", "1e3", "0x50", "0b1", "8:", ":8", "\u0661", "\uff11", "\xff",
		"4294967297", "18446744073709551617", "99999999999999999999", strings.Repeat("9", 1<<16), strings.Repeat("0", 1<<16) + "1", "1" + strings.Repeat("0", 1<<16),
	} {
		if got, ok := ParsePort(s); got != 0 || ok {
			t.Errorf("ParsePort(%q) = %d, %v, want false", s, got, ok)
		}
	}
}

func TestParsePortBytes(t *testing.T) {
	for i := range 256 {
		b := byte(i)
		for _, s := range []string{string([]byte{b}), string([]byte{b, '5'}), string([]byte{'5', b}), string([]byte{'5', b, '5'})} {
			n, err := strconv.Atoi(s)
			wantOK := err == nil && strconv.Itoa(n) == s && n >= 1
			if got, ok := ParsePort(s); ok != wantOK || ok && got != n {
				t.Errorf("ParsePort(%q) = %d, %v, want %v", s, got, ok, wantOK)
			}
		}
	}
}

// P8.2: ParseTarget

func TestParseTargetNames(t *testing.T) {
	for s, name := range map[string]string{
		"a": "a", "www.example.org": "www.example.org", "Example.ORG": "example.org", "EXAMPLE.org.": "example.org", "a.": "a",
		"1.2.3.4a": "1.2.3.4a", "1.2.3.x": "1.2.3.x", "abcd": "abcd", "0.0.0.0.a": "0.0.0.0.a", "1-2": "1-2",
		nameOfSize(253): nameOfSize(253), nameOfSize(253) + ".": nameOfSize(253),
	} {
		wantTarget(t, s+":80", api.Target{Name: name, Port: 80})
	}
	for _, s := range []string{"", ".", "a..", "a..b", "-a", "a-", "a_b", "a b", " a", "a ", "a.1", "12", "user@a", "a/", "\u00e9", "\u212a", strings.Repeat("a", 64), nameOfSize(254), nameOfSize(254) + "."} {
		wantNoTarget(t, s+":80")
	}
}

func TestParseTargetIPv4(t *testing.T) {
	wantTarget(t, "1.2.3.4:80", api.Target{Addr: ip.V4(1, 2, 3, 4), Port: 80})
	wantTarget(t, "0.0.0.0:1", api.Target{Port: 1})
	wantTarget(t, "255.255.255.255:65535", api.Target{Addr: ip.V4(255, 255, 255, 255), Port: 65535})
	for _, s := range []string{"1.2.3.256", "1.2.3", "1.2.3.4.5", "01.2.3.4", "1.2.3.4.", "1.2.3.4..", ".1.2.3.4", " 1.2.3.4", "1.2.3.4 ", "1.2..4"} {
		wantNoTarget(t, s+":80")
	}
}

func TestParseTargetIPv6(t *testing.T) {
	one := six(t, 0, 0, 0, 0, 0, 0, 0, 1)
	for s, a := range map[string]api.Addr{
		"::1": one, "0:0:0:0::1": one, "0:0:0:0:0:0:0:1": one, "::": {IPv6: true},
		"2001:DB8::a": six(t, 0x2001, 0xdb8, 0, 0, 0, 0, 0, 10), "::ffff:10.0.0.1": six(t, 0, 0, 0, 0, 0, 0xffff, 0xa00, 1),
	} {
		wantTarget(t, "["+s+"]:443", api.Target{Addr: a, Port: 443})
		wantNoTarget(t, s+":443")
	}
}

func TestParseTargetBrackets(t *testing.T) {
	for _, s := range []string{
		"[1.2.3.4]", "[0.0.0.0]", "[a]", "[example.org]", "[abcd]", "[]", "[ ]", "[", "]", "][", "[[::1]]", "[[::1]", "[::1]]", "[::1", "::1]", "[a", "a]", "[1.2.3.4", "1.2.3.4]",
		"[::1] ", " [::1]", "[::1].", ".[::1]", "[ ::1]", "[::1 ]", "[::1%lo]", "[1::2::3]", "[::1][::1]", "x[::1]", "[::1]x", "(::1)", "{::1}",
	} {
		wantNoTarget(t, s+":80")
	}
}

func TestParseTargetWithoutPort(t *testing.T) {
	for _, s := range []string{"", "a", "example.org", "1.2.3.4", "80", "[]", "[a]", "[1.2.3.4]"} {
		wantNoTarget(t, s) // no colon at all
	}
	for _, s := range []string{":", "::", "a:", "1.2.3.4:", "[::1]:", "[::1]", "::1", ":80", "::80", "a::", "[::1]::"} {
		wantNoTarget(t, s)
	}
}

func TestParseTargetPorts(t *testing.T) {
	one := six(t, 0, 0, 0, 0, 0, 0, 0, 1)
	hosts := map[string]api.Target{"a.b": {Name: "a.b"}, "1.2.3.4": {Addr: ip.V4(1, 2, 3, 4)}, "[::1]": {Addr: one}}
	for s, want := range hosts {
		for _, want.Port = range []int{1, 9, 10, 80, 65535} {
			wantTarget(t, s+":"+strconv.Itoa(want.Port), want)
		}
		for _, port := range []string{"", "0", "080", "65536", "+80", "-80", " 80", "80 ", "8a", "http", "99999999999999999999", "80.", "[80]"} {
			wantNoTarget(t, s+":"+port)
		}
	}
}

func TestParseTargetSeveralColons(t *testing.T) {
	for _, s := range []string{"a:80:80", "a::80", "a:80:", ":a:80", "1.2.3.4:80:80", "1.2.3.4::80", "[::1]::80", "[::1]:80:80", ":[::1]:80", "::1:443", "1:2:3:4:5:6:7:8:443", "1:2:3:4:5:6:7:8", "::ffff:1.2.3.4:80", "http://a:80"} {
		wantNoTarget(t, s)
	}
}

func TestParseTargetAgainstModel(t *testing.T) {
	everyString("[]:.a1", 7, func(s string) {
		want, wantOK := modelParseTarget(s)
		if got, ok := ParseTarget(s); got != want || ok != wantOK {
			t.Fatalf("ParseTarget(%q) = %v, %v, want %v, %v", s, got, ok, want, wantOK)
		}
	})
}

// modelParseTarget is ParseTarget, by the words of P8.2.
func modelParseTarget(s string) (api.Target, bool) {
	parts := strings.Split(s, ":")
	port, err := strconv.Atoi(parts[len(parts)-1])
	if len(parts) < 2 || err != nil || port < 1 || port > 65535 || strconv.Itoa(port) != parts[len(parts)-1] {
		return api.Target{}, false
	}
	before := strings.Join(parts[:len(parts)-1], ":")
	inner, opened := strings.CutPrefix(before, "[")
	inner, closed := strings.CutSuffix(inner, "]")
	if opened && closed {
		a, ok := ip.Parse(inner)
		if !ok || !strings.Contains(inner, ":") {
			return api.Target{}, false
		}
		return api.Target{Addr: a, Port: port}, true
	}
	if a, ok := ip.Parse(before); ok && !strings.Contains(before, ":") {
		return api.Target{Addr: a, Port: port}, true
	}
	if name, ok := modelParseName(before); ok {
		return api.Target{Name: name, Port: port}, true
	}
	return api.Target{}, false
}

// P8.2: Valid and Format

func wantFormat(t *testing.T, x api.Target, want string) {
	t.Helper()
	if !Valid(x) {
		t.Errorf("Valid(%v) = false", x)
	}
	if got := Format(x); got != want {
		t.Errorf("Format(%v) = %q, want %q", x, got, want)
	}
}

func wantInvalid(t *testing.T, x api.Target) {
	t.Helper()
	if Valid(x) {
		t.Errorf("Valid(%v) = true", x)
	}
	if got := Format(x); got != "" {
		t.Errorf("Format(%v) = %q, want nothing", x, got)
	}
}

func TestFormatOrdinary(t *testing.T) {
	wantFormat(t, api.Target{Name: "a.b", Port: 1}, "a.b:1")
	wantFormat(t, api.Target{Name: "www.example.org", Port: 443}, "www.example.org:443")
	wantFormat(t, api.Target{Addr: ip.V4(1, 2, 3, 4), Port: 65535}, "1.2.3.4:65535")
	wantFormat(t, api.Target{Addr: six(t, 0, 0, 0, 0, 0, 0, 0, 1), Port: 80}, "[::1]:80")
	wantFormat(t, api.Target{Addr: six(t, 0x2001, 0xdb8, 0, 0, 1, 0, 0, 1), Port: 8080}, "[2001:db8::1:0:0:1]:8080")
	wantFormat(t, api.Target{Addr: six(t, 0, 0, 0, 0, 0, 0xffff, 0xa00, 1), Port: 80}, "[::ffff:a00:1]:80")
	wantFormat(t, api.Target{Name: nameOfSize(253), Port: 80}, nameOfSize(253)+":80")
}

// The zero address is the valid IPv4 address 0.0.0.0, so a target with neither a name nor an address is one for it.
func TestFormatWithNeitherNameNorAddress(t *testing.T) {
	wantFormat(t, api.Target{Port: 80}, "0.0.0.0:80")
	wantFormat(t, api.Target{Addr: api.Addr{IPv6: true}, Port: 80}, "[::]:80")
	wantInvalid(t, api.Target{})
}

func TestInvalidWithNameAndAddress(t *testing.T) {
	for _, a := range []api.Addr{ip.V4(1, 2, 3, 4), ip.V4(0, 0, 0, 1), {IPv6: true}, six(t, 0, 0, 0, 0, 0, 0, 0, 1), {Bytes: [16]byte{15: 1}}} {
		wantInvalid(t, api.Target{Name: "a.b", Addr: a, Port: 80})
	}
	wantFormat(t, api.Target{Name: "a.b", Port: 80}, "a.b:80")
}

func TestInvalidPorts(t *testing.T) {
	one := six(t, 0, 0, 0, 0, 0, 0, 0, 1)
	for _, x := range []api.Target{{Name: "a.b"}, {Addr: ip.V4(1, 2, 3, 4)}, {Addr: one}, {}} {
		for _, x.Port = range []int{math.MinInt, -65535, -1, 0, 65536, 65537, 1<<32 + 80, math.MaxInt} {
			wantInvalid(t, x)
		}
		for _, x.Port = range []int{1, 65535} {
			if !Valid(x) || !strings.HasSuffix(Format(x), ":"+strconv.Itoa(x.Port)) {
				t.Errorf("Valid(%v) = %v, Format returns %q", x, Valid(x), Format(x))
			}
		}
	}
}

func TestInvalidAddresses(t *testing.T) {
	for i := 4; i < 16; i++ {
		for _, a := range []api.Addr{ip.V4(0, 0, 0, 0), ip.V4(1, 2, 3, 4)} {
			a.Bytes[i] = 255
			wantInvalid(t, api.Target{Addr: a, Port: 80})
		}
	}
}

func TestInvalidNames(t *testing.T) {
	for _, s := range badNames() {
		wantInvalid(t, api.Target{Name: s, Port: 80})
		wantInvalid(t, api.Target{Name: s, Addr: ip.V4(1, 2, 3, 4), Port: 80})
	}
}

// Consequences: ParseTarget(Format(t)) returns t for every valid target

func TestParseTargetOfFormat(t *testing.T) {
	var targets []api.Target
	for _, port := range []int{1, 80, 443, 8080, 65535} {
		for _, name := range []string{"a", "a.b", "1.2.3.a", "xn--a", "abcd", "a.1-1", nameOfSize(253), strings.Repeat("a.", 126) + "a"} {
			targets = append(targets, api.Target{Name: name, Port: port})
		}
		for i := range 256 {
			targets = append(targets, api.Target{Addr: ip.V4(byte(i), byte(255-i), 0, byte(i*7)), Port: port})
			targets = append(targets, api.Target{Addr: sparse(i), Port: port})
		}
	}
	for _, x := range targets {
		wantTarget(t, Format(x), x)
	}
}

func TestParseTargetOfFormatOfEveryShortName(t *testing.T) {
	everyString("aZ1-.:[", 5, func(s string) {
		x := api.Target{Name: s, Port: 80}
		if Valid(x) {
			wantTarget(t, Format(x), x)
		} else {
			wantInvalid(t, x)
		}
	})
}

func TestParseTargetOfFormatOfEveryPort(t *testing.T) {
	for port := 1; port <= 65535; port++ {
		wantTarget(t, Format(api.Target{Name: "a", Port: port}), api.Target{Name: "a", Port: port})
	}
}

// sparse returns the IPv6 address whose group i is zero if bit i of the pattern is.
func sparse(pattern int) api.Addr {
	a := api.Addr{IPv6: true}
	for i := range 8 {
		a.Bytes[2*i+1] = byte(pattern>>i&1) * byte(0x11*(i+1))
	}
	return a
}

// Every target that ParseTarget returns is valid.
func TestParseTargetReturnsValidTargets(t *testing.T) {
	everyString("[]:.A1", 6, func(s string) {
		if x, ok := ParseTarget(s); ok && !Valid(x) {
			t.Fatalf("ParseTarget(%q) = %v, which is not valid", s, x)
		}
	})
}

// Example 2

func TestExampleOfTargets(t *testing.T) {
	a, ok := ip.Parse("::1")
	if !ok {
		t.Fatal("::1 is no address")
	}
	wantTarget(t, "[::1]:443", api.Target{Addr: a, Port: 443})
}
