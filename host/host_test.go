package host

import (
	"regexp"
	"strings"
	"testing"

	"ginnel/api"
)

// nameShape is the definition of a host name but for its length and its last label, written independently of the package.
var nameShape = regexp.MustCompile(`^[a-z0-9]([a-z0-9-]{0,61}[a-z0-9])?(\.[a-z0-9]([a-z0-9-]{0,61}[a-z0-9])?)*\z`)

// digitsLast is the shape of a name whose last label consists of digits only.
var digitsLast = regexp.MustCompile(`(^|\.)[0-9]+\z`)

// modelIsName reports whether s is a host name, by the definition of the chapter.
func modelIsName(s string) bool {
	return len(s) >= 1 && len(s) <= 253 && nameShape.MatchString(s) && !digitsLast.MatchString(s)
}

// modelParseName is ParseName, by the words of P8.1.
func modelParseName(s string) (string, bool) {
	lowered := strings.Map(func(r rune) rune {
		if r >= 'A' && r <= 'Z' {
			return r + 32
		}
		return r
	}, s)
	lowered = strings.TrimSuffix(lowered, ".")
	if !modelIsName(lowered) {
		return "", false
	}
	return lowered, true
}

// nameOfSize returns a host name of n bytes whose labels have at most 63 bytes.
func nameOfSize(n int) string {
	name := strings.Repeat(strings.Repeat("a", 63)+".", n/64)
	if n%64 == 0 { // a dot must not be the last byte
		return name[:n-1] + "b"
	}
	return name + strings.Repeat("b", n%64)
}

func wantName(t *testing.T, s, want string) {
	t.Helper()
	if got, ok := ParseName(s); got != want || !ok {
		t.Errorf("ParseName(%q) = %q, %v, want %q", s, got, ok, want)
	}
}

func wantNoName(t *testing.T, s string) {
	t.Helper()
	if got, ok := ParseName(s); got != "" || ok {
		t.Errorf("ParseName(%q) = %q, %v, want false", s, got, ok)
	}
}

// everyString calls f with each string of up to n of the given bytes.
func everyString(bytes string, n int, f func(s string)) {
	everyLongerString("", bytes, n, f)
}

func everyLongerString(start, bytes string, n int, f func(s string)) {
	f(start)
	if len(start) == n {
		return
	}
	for i := range len(bytes) {
		everyLongerString(start+bytes[i:i+1], bytes, n, f)
	}
}

// P8.1: ParseName

func TestParseNameOrdinary(t *testing.T) {
	for _, s := range []string{"a", "localhost", "example.org", "www.example.org", "a.b.c.d.e.f", "3com.com", "1.2.3.a", "xn--bcher-kva.example", "0x7f", "z9"} {
		wantName(t, s, s)
	}
}

func TestParseNameUpperCase(t *testing.T) {
	wantName(t, "EXAMPLE.Org", "example.org")
	wantName(t, "ABCDEFGHIJKLMNOPQRSTUVWXYZ", "abcdefghijklmnopqrstuvwxyz")
	wantName(t, "XN--A.1-B", "xn--a.1-b")
	wantName(t, "1.A", "1.a")
}

func TestParseNameTrailingDots(t *testing.T) {
	wantName(t, "example.org.", "example.org")
	wantName(t, "a.", "a")
	wantName(t, "A.B.", "a.b")
	for _, s := range []string{"example.org..", "a..", "a...", "", ".", "..", ".a", ".a.", "a..b", "a.b..", "1.", "a.1."} {
		wantNoName(t, s)
	}
}

func TestParseNameLabelSize(t *testing.T) {
	longest := strings.Repeat("a", api.MaxLabel)
	for _, s := range []string{longest, longest + ".a", "a." + longest, "a." + longest + ".a"} {
		wantName(t, s, s)
		wantName(t, s+".", s)
	}
	tooLong := strings.Repeat("a", api.MaxLabel+1)
	for _, s := range []string{tooLong, tooLong + ".", tooLong + ".a", "a." + tooLong, "a." + tooLong + ".a"} {
		wantNoName(t, s)
	}
}

func TestParseNameSize(t *testing.T) {
	for _, n := range []int{1, 2, 63, 64, 65, 127, 128, 192, 200, 251, api.MaxName - 1, api.MaxName} {
		s := nameOfSize(n)
		if len(s) != n {
			t.Fatalf("a name of %d bytes, want %d", len(s), n)
		}
		if n%64 == 0 { // its last label would have 64 bytes
			wantNoName(t, s)
			continue
		}
		wantName(t, s, s)
		wantName(t, s+".", s)
		wantNoName(t, s+"..")
	}
	for _, n := range []int{api.MaxName + 1, api.MaxName + 2} {
		s := nameOfSize(n)
		wantNoName(t, s)
		wantNoName(t, s+".")
	}
	many := strings.Repeat("a.", 126) + "a"
	wantName(t, many, many)
	wantName(t, many+".", many)
	wantNoName(t, many+"a")
	wantNoName(t, many+"a.")
	wantNoName(t, many+".a")
	wantNoName(t, strings.Repeat("a.", 1<<20))
	wantNoName(t, strings.Repeat(".", 1<<20))
}

func TestParseNameHyphens(t *testing.T) {
	for _, s := range []string{"a-b", "a--b", "a-b-c", "1-2", "a.1-2", "x.a-b.y", "0-a", "a-0"} {
		wantName(t, s, s)
	}
	for _, s := range []string{"-", "--", "-a", "a-", "-a-", "-.a", "a.-", "-a.b", "a-.b", "a.-b", "a.b-", "a.b-.", "x.-a.y", "x.a-.y", "-1", "1-"} {
		wantNoName(t, s)
	}
}

func TestParseNameLastLabel(t *testing.T) {
	for _, s := range []string{"1", "0", "12", "a.1", "a.12", "1.2.3.4", "1.2.3.256", "a.b.09", "1.", "a.007.", strings.Repeat("1", 63)} {
		wantNoName(t, s)
	}
	for _, s := range []string{"1a", "a1", "a.1b", "a.b1", "1.2.3.4a", "1.2.3.x4", "a.1-1", "1.a", "12.34.a", strings.Repeat("1", 62) + "a", "a" + strings.Repeat("1", 62)} {
		wantName(t, s, s)
	}
}

func TestParseNameBytes(t *testing.T) {
	for i := range 256 {
		b := byte(i)
		letter := 'a' <= b && b <= 'z' || 'A' <= b && b <= 'Z'
		digit := '0' <= b && b <= '9'
		within := "x" + string([]byte{b}) + "y"
		if letter || digit || b == '-' || b == '.' {
			wantName(t, within, strings.ToLower(within))
		} else {
			wantNoName(t, within)
		}
		alone := string([]byte{b})
		if letter {
			wantName(t, alone, strings.ToLower(alone))
		} else {
			wantNoName(t, alone)
		}
	}
}

// The lower case of the Kelvin sign is the letter k, and that of the capital I with a dot starts with an i. Neither is a letter from A to Z.
func TestParseNameOutsideASCII(t *testing.T) {
	for _, s := range []string{"\u212a", "a\u212ab", "\u0130", "\u017f", "\u00e9", "b\u00fccher.example", "\u30c6.jp", "a\u3002b", "a\xff", "\xc3", "a\u200d"} {
		wantNoName(t, s)
	}
}

func TestParseNameAgainstModel(t *testing.T) {
	everyString("aZ1-.", 7, func(s string) {
		got, ok := ParseName(s)
		want, wantOK := modelParseName(s)
		if got != want || ok != wantOK {
			t.Fatalf("ParseName(%q) = %q, %v, want %q, %v", s, got, ok, want, wantOK)
		}
	})
}

func TestParseNameOfItsResult(t *testing.T) {
	everyString("aZ1-.", 6, func(s string) {
		if name, ok := ParseName(s); ok {
			wantName(t, name, name)
		}
	})
}

// P8.1: IsSubdomain

func TestIsSubdomain(t *testing.T) {
	for _, x := range [][2]string{{"a", "a"}, {"b.c", "b.c"}, {"a.b.c", "b.c"}, {"a.b.c", "c"}, {"x.y.b.c", "b.c"}, {"b.c.b.c", "b.c"}, {"1.a", "a"}, {"a-b.c-d", "c-d"}, {"a.a", "a"}} {
		if !IsSubdomain(x[0], x[1]) {
			t.Errorf("IsSubdomain(%q, %q) = false", x[0], x[1])
		}
	}
	for _, x := range [][2]string{{"ab.c", "b.c"}, {"a-b.c", "b.c"}, {"bc", "c"}, {"c", "b.c"}, {"b.c", "a.b.c"}, {"a.b.c", "a.b"}, {"a.b.c", "a"}, {"a.b.c", "b"}, {"a", "b"}, {"a.b", "c.b"}, {"b.c", "b.d"}} {
		if IsSubdomain(x[0], x[1]) {
			t.Errorf("IsSubdomain(%q, %q) = true", x[0], x[1])
		}
	}
}

func TestIsSubdomainOfNoHostName(t *testing.T) {
	for _, s := range []string{"", ".", "A", "a.", ".a", "-a", "a-", "1", "a.1", "a..b", "a_b", "1.2.3.4", "\u212a", strings.Repeat("a", 64), nameOfSize(254)} {
		for _, x := range [][2]string{{s, s}, {"x." + s, s}, {s, "a"}, {"a", s}, {"x.a", s}, {s + ".a", "a"}} {
			if modelIsName(x[0]) && modelIsName(x[1]) {
				continue
			}
			if IsSubdomain(x[0], x[1]) {
				t.Errorf("IsSubdomain(%q, %q) = true", x[0], x[1])
			}
		}
	}
	for _, x := range [][2]string{{"A.b.c", "b.c"}, {"a.B.c", "B.c"}, {"a.b.c", "B.c"}, {"a.b.c.", "b.c"}, {"a.b.c.", "b.c."}, {"a.b.c", ".b.c"}, {"a..b", "b"}, {"-a.b", "b"}, {"a.1", "1"}} {
		if IsSubdomain(x[0], x[1]) {
			t.Errorf("IsSubdomain(%q, %q) = true", x[0], x[1])
		}
	}
}

func TestIsSubdomainOfLongestNames(t *testing.T) {
	longest := nameOfSize(api.MaxName)
	if !IsSubdomain(longest, longest) || !IsSubdomain(longest, longest[64:]) {
		t.Errorf("the longest name is not below its suffixes")
	}
	if IsSubdomain("a."+longest, longest) {
		t.Errorf("a name that is too long is below its suffix")
	}
}

func TestIsSubdomainAgainstModel(t *testing.T) {
	var names []string
	everyString("a1-.", 4, func(s string) { names = append(names, s) })
	for _, name := range names {
		for _, suffix := range names {
			related := name == suffix || strings.HasSuffix(name, "."+suffix)
			want := modelIsName(name) && modelIsName(suffix) && related
			if got := IsSubdomain(name, suffix); got != want {
				t.Fatalf("IsSubdomain(%q, %q) = %v", name, suffix, got)
			}
		}
	}
}

// P8.1: LabelCount

func TestLabelCount(t *testing.T) {
	for s, want := range map[string]int{
		"a": 1, "abc": 1, "a-b": 1, "a.b": 2, "www.example.org": 3, "1.2.3.4.a": 5,
		strings.Repeat("a", 63): 1, nameOfSize(api.MaxName): 4, strings.Repeat("a.", 126) + "a": 127,
	} {
		if got := LabelCount(s); got != want {
			t.Errorf("LabelCount(%q) = %d, want %d", s, got, want)
		}
	}
}

func TestLabelCountOfNoHostName(t *testing.T) {
	for _, s := range []string{"", ".", "..", "a.", ".a", "a..b", "A", "a.B", "-a", "a-", "a.-b", "1", "a.1", "1.2.3.4", "a_b", "a b", "\u00e9", "\u212a", strings.Repeat("a", 64), nameOfSize(254), strings.Repeat("a.", 127) + "a"} {
		if got := LabelCount(s); got != 0 {
			t.Errorf("LabelCount(%q) = %d, want 0", s, got)
		}
	}
}

func TestLabelCountAgainstModel(t *testing.T) {
	everyString("aZ1-.", 7, func(s string) {
		want := 0
		if modelIsName(s) {
			want = len(strings.Split(s, "."))
		}
		if got := LabelCount(s); got != want {
			t.Fatalf("LabelCount(%q) = %d, want %d", s, got, want)
		}
	})
}

// Examples 1 and 3

func TestExamplesOfNames(t *testing.T) {
	wantName(t, "WWW.Example.org.", "www.example.org")
	if !IsSubdomain("a.b.c", "b.c") {
		t.Errorf(`IsSubdomain("a.b.c", "b.c") = false`)
	}
	if IsSubdomain("ab.c", "b.c") {
		t.Errorf(`IsSubdomain("ab.c", "b.c") = true`)
	}
}
