package octet_test

import (
	"strings"
	"testing"

	"doorkeeper/octet"
)

const (
	letters = "ABCDEFGHIJKLMNOPQRSTUVWXYZabcdefghijklmnopqrstuvwxyz"
	digits  = "0123456789"
)

// classes are the functions for the classes, with the bytes that the chapter lists.
var classes = []struct {
	name  string
	class func(c byte) bool
	bytes string
}{
	{"Letter", octet.Letter, letters},
	{"Digit", octet.Digit, digits},
	{"Token", octet.Token, letters + digits + "!#$%&'*+-.^_~\x60\x7c"},
	{"Unreserved", octet.Unreserved, letters + digits + "-._~"},
	{"Path", octet.Path, letters + digits + "-._~" + "!$&'()*+,;=:@"},
	{"Field", octet.Field, "\t" + span(32, 126) + span(128, 255)},
}

// span returns the bytes from first to last.
func span(first, last int) string {
	var b []byte
	for c := first; c <= last; c++ {
		b = append(b, byte(c))
	}
	return string(b)
}

func has(s string, c byte) bool { return strings.IndexByte(s, c) >= 0 }

// P2.1
func TestClasses(t *testing.T) {
	for _, k := range classes {
		for n := range 256 {
			c := byte(n)
			if got := k.class(c); got != has(k.bytes, c) {
				t.Errorf("%s(%q) = %t", k.name, c, got)
			}
		}
	}
}

// P2.1: the numbers of bytes guard against a wrong list above.
func TestSizesOfClasses(t *testing.T) {
	sizes := map[string]int{"Letter": 52, "Digit": 10, "Token": 77, "Unreserved": 66, "Path": 79, "Field": 224}
	for _, k := range classes {
		size := 0
		for n := range 256 {
			if k.class(byte(n)) {
				size++
			}
		}
		if size != sizes[k.name] {
			t.Errorf("%s has %d bytes, want %d", k.name, size, sizes[k.name])
		}
	}
}

// P2.2
func TestHex(t *testing.T) {
	values := map[byte]int{
		'0': 0, '1': 1, '2': 2, '3': 3, '4': 4, '5': 5, '6': 6, '7': 7, '8': 8, '9': 9,
		'a': 10, 'b': 11, 'c': 12, 'd': 13, 'e': 14, 'f': 15,
		'A': 10, 'B': 11, 'C': 12, 'D': 13, 'E': 14, 'F': 15,
	}
	for n := range 256 {
		want, is := values[byte(n)]
		if v, ok := octet.Hex(byte(n)); v != want || ok != is {
			t.Errorf("Hex(%q) = %d, %t, want %d, %t", byte(n), v, ok, want, is)
		}
	}
}

// P2.3: one byte at the beginning, in the middle, at the end or alone decides.
func TestAllOfClasses(t *testing.T) {
	for _, k := range classes {
		if !octet.All("", k.class) {
			t.Errorf("All of the empty string is false for %s", k.name)
		}
		if !octet.All(k.bytes, k.class) {
			t.Errorf("All of the class is false for %s", k.name)
		}
		for n := range 256 {
			c := string([]byte{byte(n)})
			half := len(k.bytes) / 2
			for _, s := range []string{c, c + k.bytes, k.bytes + c, k.bytes[:half] + c + k.bytes[half:]} {
				if got := octet.All(s, k.class); got != has(k.bytes, byte(n)) {
					t.Errorf("All(%q, %s) = %t", s, k.name, got)
				}
			}
		}
	}
}

// P2.3: classes are classes of bytes, not of characters.
func TestAllVisitsBytes(t *testing.T) {
	high := func(c byte) bool { return c >= 128 }
	for _, c := range []struct {
		s    string
		want bool
	}{
		{"\u00e9\u20ac", true},
		{"\xff\xc3\x80", true},
		{"\u00e9e", false},
		{"\x00", false},
	} {
		if got := octet.All(c.s, high); got != c.want {
			t.Errorf("All(%q) = %t", c.s, got)
		}
	}
	no := func(c byte) bool { return false }
	if octet.All("a", no) || !octet.All("", no) {
		t.Errorf("All of a class without bytes is wrong")
	}
}

// P2.3: a class that panics, or is nil, contains no byte.
func TestAllWithoutPanic(t *testing.T) {
	var none func(c byte) bool
	if octet.All("a", none) {
		t.Errorf("All is true for a class that is nil")
	}
	if !octet.All("", none) {
		t.Errorf("All of the empty string is false for a class that is nil")
	}
	broken := func(c byte) bool {
		if c == 'b' {
			panic("broken")
		}
		return true
	}
	for s, want := range map[string]bool{"": true, "ac": true, "abc": false, "b": false, "aab": false} {
		if got := octet.All(s, broken); got != want {
			t.Errorf("All(%q) = %t for a class that panics", s, got)
		}
	}
}

// P2.3
func TestIsToken(t *testing.T) {
	for _, c := range []struct {
		s    string
		want bool
	}{
		{"", false},
		{"a", true},
		{"GET", true},
		{"content-length", true},
		{"!#$%&'*+-.^_~`|09azAZ", true},
		{" ", false},
		{"GET ", false},
		{" GET", false},
		{"a b", false},
		{"a\tb", false},
		{"a:", false},
		{"a/b", false},
		{"a,b", false},
		{"\"a\"", false},
		{"(a)", false},
		{"a\r\n", false},
		{"a\x00", false},
		{"a\x7f", false},
		{"\u00e9", false},
		{"a\xff", false},
	} {
		if got := octet.IsToken(c.s); got != c.want {
			t.Errorf("IsToken(%q) = %t", c.s, got)
		}
	}
}

// P2.3
func TestIsTokenOfOneByte(t *testing.T) {
	for n := range 256 {
		s := string([]byte{byte(n)})
		if got := octet.IsToken(s); got != octet.Token(byte(n)) {
			t.Errorf("IsToken(%q) = %t", s, got)
		}
	}
}

// P2.4
func TestLowerOfBytes(t *testing.T) {
	want := []byte(span(0, 255))
	copy(want['A':], "abcdefghijklmnopqrstuvwxyz")
	if got := octet.Lower(span(0, 255)); got != string(want) {
		t.Errorf("Lower of all bytes = %q, want %q", got, want)
	}
	for n := range 256 {
		if got := octet.Lower(string([]byte{byte(n)})); got != string(want[n:n+1]) {
			t.Errorf("Lower of byte %d = %q", n, got)
		}
	}
}

// P2.4: letters outside A to Z, and bytes that are not UTF-8, stay.
func TestLower(t *testing.T) {
	for _, c := range []struct{ s, want string }{
		{"", ""},
		{"GET", "get"},
		{"Content-Length: 10", "content-length: 10"},
		{"abc", "abc"},
		{"@AZ[`az{", "@az[`az{"},
		{"\u00c9\u0130\u212a\u0416", "\u00c9\u0130\u212a\u0416"},
		{"A\xc3\xff\x80Z", "a\xc3\xff\x80z"},
		{"A\x00B\r\n", "a\x00b\r\n"},
	} {
		if got := octet.Lower(c.s); got != c.want {
			t.Errorf("Lower(%q) = %q, want %q", c.s, got, c.want)
		}
	}
}

// P2.5
func TestTrim(t *testing.T) {
	for _, c := range []struct{ s, want string }{
		{"", ""},
		{" ", ""},
		{"\t", ""},
		{" \t \t", ""},
		{"a", "a"},
		{" a b \t", "a b"},
		{"\t \ta", "a"},
		{"a\t \t", "a"},
		{"  abc  ", "abc"},
		{"a \t b", "a \t b"},
		{" \ta\t b\t\tc ", "a\t b\t\tc"},
		{"\x00 a \x00", "\x00 a \x00"},
		{" \n a \n ", "\n a \n"},
		{"\r\n", "\r\n"},
		{"\va\f", "\va\f"},
		{" \u00a0a\u2003 ", "\u00a0a\u2003"},
		{" \xa0\x85 ", "\xa0\x85"},
	} {
		if got := octet.Trim(c.s); got != c.want {
			t.Errorf("Trim(%q) = %q, want %q", c.s, got, c.want)
		}
	}
}

// P2.5: no other byte is removed, from either end.
func TestTrimOfBytes(t *testing.T) {
	for n := range 256 {
		b := string([]byte{byte(n)})
		inner := b + "x" + b
		want := inner
		if n == 9 || n == 32 {
			want = "x"
		}
		for _, blanks := range []string{"", " ", "\t", "\t \t "} {
			s := blanks + inner + blanks
			if got := octet.Trim(s); got != want {
				t.Errorf("Trim(%q) = %q, want %q", s, got, want)
			}
		}
	}
}
