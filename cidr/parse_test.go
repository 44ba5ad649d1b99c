package cidr

import (
	"regexp"
	"strconv"
	"strings"
	"testing"

	"ginnel/api"
	"ginnel/ip"
)

// P9.2: Format

func wantFormat(t *testing.T, p api.Prefix, want string) {
	t.Helper()
	if got := Format(p); got != want {
		t.Errorf("Format(%v) = %q, want %q", p, got, want)
	}
}

func TestFormatOrdinary(t *testing.T) {
	wantFormat(t, api.Prefix{}, "0.0.0.0/0")
	wantFormat(t, prefix(t, "10.0.0.0", 8), "10.0.0.0/8")
	wantFormat(t, prefix(t, "10.1.2.3", 32), "10.1.2.3/32")
	wantFormat(t, prefix(t, "128.0.0.0", 1), "128.0.0.0/1")
	wantFormat(t, prefix(t, "::", 0), "::/0")
	wantFormat(t, prefix(t, "::1", 128), "::1/128")
	wantFormat(t, prefix(t, "2001:DB8:0::", 32), "2001:db8::/32")
	wantFormat(t, prefix(t, "::ffff:0.0.0.0", 96), "::ffff:0:0/96")
	wantFormat(t, prefix(t, "2001:db8:0:0:1::", 99), "2001:db8:0:0:1::/99")
}

func TestFormatOfInvalidPrefixes(t *testing.T) {
	for _, p := range badPrefixes(t) {
		wantFormat(t, p, "")
	}
}

func TestFormatOfEveryLength(t *testing.T) {
	for bits := -9; bits < 140; bits++ {
		four, six := "", ""
		if bits >= 0 && bits <= 32 {
			four = "0.0.0.0/" + strconv.Itoa(bits)
		}
		if bits >= 0 && bits <= 128 {
			six = "::/" + strconv.Itoa(bits)
		}
		wantFormat(t, prefix(t, "0.0.0.0", bits), four)
		wantFormat(t, prefix(t, "::", bits), six)
	}
}

// P9.2: Parse

func wantParse(t *testing.T, s string, want api.Prefix) {
	t.Helper()
	if got, ok := Parse(s); got != want || !ok {
		t.Errorf("Parse(%q) = %v, %v, want %v, true", s, got, ok, want)
	}
}

func wantNoParse(t *testing.T, s string) {
	t.Helper()
	if got, ok := Parse(s); got != (api.Prefix{}) || ok {
		t.Errorf("Parse(%q) = %v, %v, want a zero prefix and false", s, got, ok)
	}
}

func TestParseOrdinary(t *testing.T) {
	wantParse(t, "0.0.0.0/0", api.Prefix{})
	wantParse(t, "10.0.0.0/8", prefix(t, "10.0.0.0", 8))
	wantParse(t, "10.0.0.0/7", prefix(t, "10.0.0.0", 7))
	wantParse(t, "10.0.0.0/32", prefix(t, "10.0.0.0", 32))
	wantParse(t, "1.2.3.4/32", prefix(t, "1.2.3.4", 32))
	wantParse(t, "::/0", prefix(t, "::", 0))
	wantParse(t, "::/128", prefix(t, "::", 128))
	wantParse(t, "::1/128", prefix(t, "::1", 128))
	wantParse(t, "2001:db8::/32", prefix(t, "2001:db8::", 32))
	wantParse(t, "fe80::/10", prefix(t, "fe80::", 10))
}

// Parse reads every notation of an address, not only the one that Format writes.
func TestParseOtherNotations(t *testing.T) {
	want := prefix(t, "2001:db8::", 32)
	for _, s := range []string{"2001:DB8::/32", "2001:0db8::/32", "2001:db8:0::/32", "2001:dB8:0:0:0:0:0:0/32", "2001:db8:0000:0000::0000/32", "2001:db8::0.0.0.0/32", "2001:db8::0:0/32"} {
		wantParse(t, s, want)
	}
	wantParse(t, "::ffff:0.0.0.0/96", prefix(t, "::ffff:0:0", 96))
	wantParse(t, "::ffff:10.0.0.0/104", prefix(t, "::ffff:a00:0", 104))
	wantParse(t, "0:0:0:0:0:0:0:0/0", prefix(t, "::", 0))
	wantParse(t, "0::0/0", prefix(t, "::", 0))
	wantParse(t, "::0.0.0.0/128", prefix(t, "::", 128))
}

func TestParseSlashes(t *testing.T) {
	for _, s := range []string{
		"", "/", "//", "8", "10.0.0.0", "10.0.0.08", "::", "::1", "10.0.0.0 8", "10.0.0.0:8", "10.0.0.0\\8", "10.0.0.0|8",
		"/8", "/10.0.0.0", "/10.0.0.0/8", "//8", "10.0.0.0/8/", "10.0.0.0//8", "10.0.0.0/8/8", "10.0.0.0/8/0", "10.0.0.0/255.0.0.0", "::/0/0", "::/0/", "::/", "10.0.0.0/", "8/10.0.0.0", "10.0.0.0\u22158",
	} {
		wantNoParse(t, s)
	}
}

func TestParseNumbers(t *testing.T) {
	for _, s := range []string{
		"00", "08", "008", "000", "0000000000000000000000000008", "032", "010", "+8", "-8", "+0", "-0", "-1", "--8", "+", "-", " 8", "8 ", " ", "\t8", "8\n", "8\r\n", "8\x00", "\x008",
		"8a", "a", "a8", "0x8", "0b1000", "0o10", "1_0", "_8", "8_", "8.", "8.0", ".8", "1e1", "8,", "8%", "0/", "\u0668", "\uff18", "\xff", "8\xff", "inf",
	} {
		wantNoParse(t, "0.0.0.0/"+s)
		wantNoParse(t, "::/"+s)
	}
	wantNoParse(t, "0.0.0.0/33")
	wantNoParse(t, "0.0.0.0/128")
	wantNoParse(t, "::/129")
}

// Numbers that do not fit an int must not turn into small ones.
func TestParseLongNumbers(t *testing.T) {
	for _, s := range []string{
		"256", "264", "288", "65544", "2147483656", "4294967296", "4294967304", "9223372036854775807", "9223372036854775808", "9223372036854775816", "18446744073709551616", "18446744073709551624",
		"340282366920938463463374607431768211464", "8" + strings.Repeat("0", 1<<20), strings.Repeat("0", 1<<20) + "8", strings.Repeat("9", 1<<20), strings.Repeat("0", 1<<20),
	} {
		wantNoParse(t, "0.0.0.0/"+s)
		wantNoParse(t, "::/"+s)
		wantNoParse(t, "0.0.0.0/-"+s)
	}
}

func TestParseEveryNumber(t *testing.T) {
	for n := -300; n <= 3000; n++ {
		text := strconv.Itoa(n)
		for s, size := range map[string]int{"0.0.0.0": 32, "::": 128} {
			if n >= 0 && n <= size {
				wantParse(t, s+"/"+text, prefix(t, s, n))
			} else {
				wantNoParse(t, s+"/"+text)
			}
			wantNoParse(t, s+"/0"+text)
			wantNoParse(t, s+"/+"+text)
			wantNoParse(t, s+"/ "+text)
			wantNoParse(t, s+"/"+text+" ")
		}
	}
}

func TestParseAddresses(t *testing.T) {
	for _, s := range []string{
		"a", "a.b", "10", "10.0.0", "10.0.0.0.0", "10.0.0.00", "010.0.0.0", "256.0.0.0", "10.0.0.0 ", " 10.0.0.0", "+10.0.0.0", "-10.0.0.0", "10.0.0.", "10.0.0.0.", "*", "[::]", "::%1", ":", ":::", "::1::", "0:0:0:0:0:0:0", "0:0:0:0:0:0:0:0:0", "g::", "0.0.0.0::",
	} {
		wantNoParse(t, s+"/0")
		wantNoParse(t, s+"/8")
		wantNoParse(t, s+"/32")
		wantNoParse(t, s+"/128")
	}
}

// A bit that is set behind the prefix is not cut off: the string is rejected.
func TestParseBitsBehindThePrefix(t *testing.T) {
	for _, s := range []string{
		"10.0.0.1/8", "10.0.0.0/6", "10.128.0.0/8", "10.1.2.3/31", "128.0.0.0/0", "0.0.0.1/0", "0.0.0.1/31", "255.255.255.255/31",
		"::1/127", "::1/0", "8000::/0", "2001:db8::/28", "2001:db8:8000::/32", "2001:db8::1/32", "fe80::/8", "::ffff:0.0.0.1/96", "::ffff:128.0.0.0/96",
	} {
		wantNoParse(t, s)
	}
	for _, a := range addrs(t) {
		for bits := range sizeOf(a.IPv6) + 1 {
			p := api.Prefix{Addr: a, Bits: bits}
			s := ip.Format(a) + "/" + strconv.Itoa(bits)
			if modelValid(p) {
				wantParse(t, s, p)
			} else {
				wantNoParse(t, s)
			}
		}
	}
}

// notation is an address and a number without leading zeros, apart from what an address looks like.
var notation = regexp.MustCompile(`^([^/]*)/(0|[1-9][0-9]*)\z`)

// modelParse is Parse, by the words of P9.2.
func modelParse(s string) (api.Prefix, bool) {
	parts := notation.FindStringSubmatch(s)
	if parts == nil || len(parts[2]) > 3 {
		return api.Prefix{}, false
	}
	a, ok := ip.Parse(parts[1])
	bits := 0
	for _, digit := range parts[2] {
		bits = 10*bits + int(digit-'0')
	}
	p := api.Prefix{Addr: a, Bits: bits}
	if !ok || !modelValid(p) {
		return api.Prefix{}, false
	}
	return p, true
}

// everyString calls f with start and each string of up to n of the given bytes behind it.
func everyString(start, bytes string, n int, f func(s string)) {
	f(start)
	if n == 0 {
		return
	}
	for i := range len(bytes) {
		everyString(start+bytes[i:i+1], bytes, n-1, f)
	}
}

func TestParseAgainstModel(t *testing.T) {
	parsed := 0
	check := func(s string) {
		t.Helper()
		want, ok := modelParse(s)
		if !ok {
			wantNoParse(t, s)
			return
		}
		parsed++
		wantParse(t, s, want)
		if !Valid(want) {
			t.Errorf("Parse(%q) = %v, which is not valid", s, want)
		}
	}
	everyString("", "0189:/", 7, check)
	for _, start := range []string{"0.0.0.0", "10.0.0.0/", "10.0.0.128/2", "255.255.255.255/", "::/", "8000::/", "::1", "::1/1", "a:b::/", "1:2:3:4:5:6:7:8/12"} {
		everyString(start, "01289+-/ ", 4, check)
	}
	if parsed < 200 {
		t.Errorf("%d of the strings are prefixes", parsed)
	}
}

// P9.2: Parse reads what Format writes

func TestParseOfFormat(t *testing.T) {
	for _, p := range prefixes(t) {
		wantParse(t, Format(p), p)
	}
	for _, a := range addrs(t) {
		for bits := range sizeOf(a.IPv6) + 1 {
			p, _ := modelPrefixOf(a, bits)
			wantParse(t, Format(p), p)
		}
	}
}

// Example 2

func TestExampleOfParse(t *testing.T) {
	wantNoParse(t, "10.0.0.1/8")
}
