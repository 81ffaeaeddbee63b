package percent_test

import (
	"errors"
	"math/rand"
	"strings"
	"testing"

	"doorkeeper/api"
	"doorkeeper/fault"
	"doorkeeper/percent"
)

const unreserved = "ABCDEFGHIJKLMNOPQRSTUVWXYZabcdefghijklmnopqrstuvwxyz0123456789-._~"

// right are texts that are encoded well, with their decoded texts and their numbers of triples.
var right = []struct {
	s, decoded string
	triples    int
}{
	{"", "", 0},
	{"a", "a", 0},
	{"/docs/a-b", "/docs/a-b", 0},
	{"%41%2f/%25%34", "A//%4", 4},
	{"b%20c", "b c", 1},
	{"%20", " ", 1},
	{"a%20", "a ", 1},
	{"%20a", " a", 1},
	{"%20%20", "  ", 2},
	{"%25", "%", 1},
	{"%2541", "%41", 1},
	{"%25%34%31", "%41", 3},
	{"%252525", "%2525", 1},
	{"%00%0a%0D", "\x00\n\r", 3},
	{"%ff%FF%fF%Ff", "\xff\xff\xff\xff", 4},
	{"%aB%Ab%4a%A4", "\xab\xab\x4a\xa4", 4},
	{"%411", "A1", 1},
	{"%414", "A4", 1},
	{"+a+", "+a+", 0},
	{"a b\t\r\n\x00", "a b\t\r\n\x00", 0},
	{"%c3%a9", "\u00e9", 2},
	{"\u00e9%20\u20ac%21\U0001f600", "\u00e9 \u20ac!\U0001f600", 2},
	{"\xff%20\xc3%21\xe2\x82%22\xf0\x9f%23", "\xff \xc3!\xe2\x82\"\xf0\x9f#", 4},
	{"\x80%20\xbf", "\x80 \xbf", 1},
	{"\uff05\u066a", "\uff05\u066a", 0},
}

// wrong are texts that are not encoded well, with the offsets of their errors.
var wrong = []struct {
	s  string
	at int
}{
	{"a%4", 1},
	{"%", 0},
	{"%4", 0},
	{"%%", 0},
	{"%%%", 0},
	{"%%41", 0},
	{"%4%41", 0},
	{"%41%", 3},
	{"%41%4", 3},
	{"%41%%41", 3},
	{"%41%4%41", 3},
	{"abc%", 3},
	{"abc%d", 3},
	{"%g0", 0},
	{"%0g", 0},
	{"%G0%20", 0},
	{"%0G%20", 0},
	{"%20%0x", 3},
	{"%zz%zz", 0},
	{"a%41b%4xc%4", 5},
	{"% 4", 0},
	{"%4 ", 0},
	{"%+4", 0},
	{"%-1", 0},
	{"%0x41", 0},
	{"%u0041", 0},
	{"%\x004", 0},
	{"%4\x00", 0},
	{"\u00e9%4", 2},
	{"\xff%4\xff", 1},
	{"%\uff11\uff11", 0},
	{"%25%2", 3},
}

// text returns the text of these bytes.
func text(c ...byte) string { return string(c) }

// value returns the value of a hexadecimal digit, and -1 for other bytes.
func value(c byte) int {
	return max(strings.IndexByte("0123456789abcdef", c), strings.IndexByte("0123456789ABCDEF", c))
}

// P3.1
func TestDecode(t *testing.T) {
	for _, c := range right {
		if got, err := percent.Decode(c.s); got != c.decoded || err != nil {
			t.Errorf("Decode(%q) = %q, %v, want %q", c.s, got, err, c.decoded)
		}
	}
}

// P3.1: the error is a fault itself, with no text beside it.
func TestDecodeWrongTexts(t *testing.T) {
	for _, c := range wrong {
		got, err := percent.Decode(c.s)
		if got != "" {
			t.Errorf("Decode(%q) = %q with an error", c.s, got)
		}
		if f, ok := err.(api.Fault); !ok || f != (api.Fault{Status: 400, At: c.at}) {
			t.Errorf("Decode(%q): error %#v, want the offset %d", c.s, err, c.at)
		}
		if s, ok := fault.Status(err); s != api.BadRequest || !ok {
			t.Errorf("Decode(%q): status %d, %t", c.s, s, ok)
		}
		if at, ok := fault.At(err); at != c.at || !ok {
			t.Errorf("Decode(%q): offset %d, %t", c.s, at, ok)
		}
		if !errors.Is(err, api.BadRequest) {
			t.Errorf("Decode(%q): errors.Is does not find 400", c.s)
		}
	}
}

// P3.1: every pair of bytes after a percent sign.
func TestPairs(t *testing.T) {
	for high := range 256 {
		for low := range 256 {
			s := text('x', '%', byte(high), byte(low), 'y')
			h, l := value(byte(high)), value(byte(low))
			got, err := percent.Decode(s)
			if h < 0 || l < 0 {
				if got != "" || err != error(api.Fault{Status: 400, At: 1}) || percent.Right(s) {
					t.Fatalf("%q: Decode %q, %v, Right %t", s, got, err, percent.Right(s))
				}
				continue
			}
			if got != text('x', byte(16*h+l), 'y') || err != nil || !percent.Right(s) {
				t.Fatalf("%q: Decode %q, %v, Right %t", s, got, err, percent.Right(s))
			}
		}
	}
}

// P3.1: the error is that of the first percent sign, wherever it stands.
func TestOffsets(t *testing.T) {
	for n := range 300 {
		for _, before := range []string{strings.Repeat("a", n), strings.Repeat("%61", n)} {
			for _, bad := range []string{"%", "%4", "%x1", "%1x", "%%%"} {
				for _, after := range []string{"", "/b", "%", "/%4"} {
					s := before + bad + "/" + after
					if _, err := percent.Decode(s); err != error(api.Fault{Status: 400, At: len(before)}) {
						t.Fatalf("Decode(%q): %#v", s, err)
					}
				}
			}
		}
	}
}

// P3.1
func TestRight(t *testing.T) {
	for _, c := range right {
		if !percent.Right(c.s) {
			t.Errorf("Right(%q) is false", c.s)
		}
	}
	for _, c := range wrong {
		if percent.Right(c.s) {
			t.Errorf("Right(%q) is true", c.s)
		}
	}
}

// P3.1: all bytes but the percent sign stay as they are.
func TestDecodeKeepsBytes(t *testing.T) {
	for n := range 256 {
		s := text('%', '2', '5', byte(n), '%', '4', '1')
		if n == '%' {
			continue
		}
		want := text('%', byte(n), 'A')
		if got, err := percent.Decode(s); got != want || err != nil {
			t.Errorf("Decode(%q) = %q, %v, want %q", s, got, err, want)
		}
	}
}

// P3.2
func TestEncode(t *testing.T) {
	for _, c := range []struct{ s, want string }{
		{"", ""},
		{"a", "a"},
		{unreserved, unreserved},
		{"b c", "b%20c"},
		{"a/b", "a%2Fb"},
		{"%", "%25"},
		{"%41", "%2541"},
		{"a+b", "a%2Bb"},
		{"!$&'()*,;=:@", "%21%24%26%27%28%29%2A%2C%3B%3D%3A%40"},
		{"\x00\r\n\t\x7f", "%00%0D%0A%09%7F"},
		{"\u00e9\u20ac", "%C3%A9%E2%82%AC"},
		{"\xff\xfe\x80", "%FF%FE%80"},
		{"..", ".."},
		{"/docs/a-b_c~d.txt", "%2Fdocs%2Fa-b_c~d.txt"},
	} {
		if got := percent.Encode(c.s); got != c.want {
			t.Errorf("Encode(%q) = %q, want %q", c.s, got, c.want)
		}
	}
}

// P3.2: each byte, alone and between others.
func TestEncodeBytes(t *testing.T) {
	const upper = "0123456789ABCDEF"
	for n := range 256 {
		c := byte(n)
		want := "%" + upper[n>>4:n>>4+1] + upper[n&15:n&15+1]
		if strings.IndexByte(unreserved, c) >= 0 {
			want = text(c)
		}
		if got := percent.Encode(text(c)); got != want {
			t.Errorf("Encode(%q) = %q, want %q", text(c), got, want)
		}
		if got := percent.Encode(text('a', c, c, ' ')); got != "a"+want+want+"%20" {
			t.Errorf("Encode of %q twice = %q", text(c), got)
		}
	}
}

// P3.2
func TestTriples(t *testing.T) {
	for _, c := range right {
		if got := percent.Triples(c.s); got != c.triples {
			t.Errorf("Triples(%q) = %d, want %d", c.s, got, c.triples)
		}
	}
	for _, c := range wrong {
		if got := percent.Triples(c.s); got != 0 {
			t.Errorf("Triples(%q) = %d, want 0", c.s, got)
		}
	}
	for n := range 300 {
		if got := percent.Triples(strings.Repeat("a%41", n)); got != n {
			t.Errorf("Triples of %d triples = %d", n, got)
		}
	}
}

// P3.2: triples beside bytes that begin or end the UTF-8 of other characters.
func TestTriplesBesideBytes(t *testing.T) {
	for n := range 256 {
		if n == '%' {
			continue
		}
		s := text(byte(n), '%', '4', '1', byte(n), '%', '4', '2', byte(n))
		if got := percent.Triples(s); got != 2 {
			t.Errorf("Triples(%q) = %d, want 2", s, got)
		}
	}
}

// P3.3
func TestDecodeInvertsEncode(t *testing.T) {
	check := func(s string) {
		e := percent.Encode(s)
		if got, err := percent.Decode(e); got != s || err != nil {
			t.Fatalf("Decode(%q) = %q, %v, want %q", e, got, err, s)
		}
		if !percent.Right(e) || len(s) != len(e)-2*percent.Triples(e) {
			t.Fatalf("Encode(%q) = %q: Right %t, Triples %d", s, e, percent.Right(e), percent.Triples(e))
		}
	}
	for high := range 256 {
		for low := range 256 {
			check(text(byte(high), byte(low)))
		}
	}
	for _, c := range right {
		check(c.s)
	}
	for _, c := range wrong {
		check(c.s)
	}
	random := rand.New(rand.NewSource(3))
	for range 2000 {
		b := make([]byte, random.Intn(40))
		random.Read(b)
		check(text(b...))
	}
}

// P3.3: a decoded text is shorter by two bytes for each triple.
func TestLengths(t *testing.T) {
	for _, c := range right {
		if len(c.decoded) != len(c.s)-2*percent.Triples(c.s) {
			t.Errorf("%q has %d triples, but %q is decoded", c.s, percent.Triples(c.s), c.decoded)
		}
	}
	parts := []string{"a", "/", "%", "%4", "%41", "%25", "4", "f", "\xc3", "\u20ac", "%g", "%fF"}
	random := rand.New(rand.NewSource(33))
	for range 5000 {
		s := ""
		for range random.Intn(6) {
			s += parts[random.Intn(len(parts))]
		}
		decoded, err := percent.Decode(s)
		if percent.Right(s) != (err == nil) {
			t.Fatalf("%q: Right %t, error %v", s, percent.Right(s), err)
		}
		if err == nil && len(decoded) != len(s)-2*percent.Triples(s) {
			t.Fatalf("Decode(%q) = %q, but Triples is %d", s, decoded, percent.Triples(s))
		}
	}
}
