package clean_test

import (
	"math/rand"
	"strings"
	"testing"

	"doorkeeper/clean"
)

// field are the field bytes, and breaks the bytes that a safe text does not have.
var (
	field  = "\t" + span(32, 126) + span(128, 255)
	breaks = "\r\n\x00"
)

// span returns the bytes from first to last.
func span(first, last int) string {
	var b []byte
	for c := first; c <= last; c++ {
		b = append(b, byte(c))
	}
	return string(b)
}

func one(c byte) string { return string([]byte{c}) }

// texts returns all texts of up to a number of bytes out of an alphabet.
func texts(alphabet string, most int) []string {
	all := []string{""}
	for i := 0; len(all[i]) < most; i++ {
		for j := range len(alphabet) {
			all = append(all, all[i]+alphabet[j:j+1])
		}
	}
	return all
}

// cleanedOf returns the cleaned text as the chapter defines it.
func cleanedOf(s string) string {
	return strings.NewReplacer("\r", " ", "\n", " ", "\x00", " ").Replace(s)
}

// quotedOf returns the quoted text as the chapter defines it, and whether there is one.
func quotedOf(s string) (string, bool) {
	for i := range len(s) {
		if strings.IndexByte(field, s[i]) < 0 {
			return "", false
		}
	}
	return "\"" + strings.NewReplacer("\\", "\\\\", "\"", "\\\"").Replace(s) + "\"", true
}

// checkClean checks Safe and Clean.
func checkClean(t *testing.T, s string) {
	t.Helper()
	want := cleanedOf(s)
	if got := clean.Safe(s); got != (s == want) {
		t.Fatalf("Safe(%q) = %t", s, got)
	}
	got := clean.Clean(s)
	if got != want {
		t.Fatalf("Clean(%q) = %q, want %q", s, got, want)
	}
	if !clean.Safe(got) || len(got) != len(s) || clean.Clean(got) != got {
		t.Fatalf("Clean(%q) = %q, which is no cleaned text", s, got)
	}
}

// checkQuote checks Quote, and Unquote with its result.
func checkQuote(t *testing.T, s string) {
	t.Helper()
	want, can := quotedOf(s)
	got, ok := clean.Quote(s)
	if got != want || ok != can {
		t.Fatalf("Quote(%q) = %q, %t, want %q, %t", s, got, ok, want, can)
	}
	if !ok {
		return
	}
	checkUnquote(t, got, s, true)
	if !clean.Safe(got) {
		t.Fatalf("the quoted text %q is not safe", got)
	}
}

// checkUnquote checks Unquote.
func checkUnquote(t *testing.T, s, want string, is bool) {
	t.Helper()
	if got, ok := clean.Unquote(s); got != want || ok != is {
		t.Fatalf("Unquote(%q) = %q, %t, want %q, %t", s, got, ok, want, is)
	}
}

// The sizes guard against wrong lists above.
func TestLists(t *testing.T) {
	if len(field) != 224 || len(breaks) != 3 {
		t.Errorf("%d field bytes and %d unsafe ones", len(field), len(breaks))
	}
}

// P7.1
func TestClean(t *testing.T) {
	for _, c := range []struct {
		s, want string
		safe    bool
	}{
		{"", "", true},
		{"a", "a", true},
		{" a b \t", " a b \t", true},
		{"text/plain; charset=utf-8", "text/plain; charset=utf-8", true},
		{"\x01\x09\x0b\x0c\x1f\x7f\x80\xff", "\x01\x09\x0b\x0c\x1f\x7f\x80\xff", true},
		{"\u00e9\u2028\u0085\u20ac", "\u00e9\u2028\u0085\u20ac", true},
		{"\\r\\n\\0", "\\r\\n\\0", true},
		{"\u010a\u010d\u0100", "\u010a\u010d\u0100", true},
		{"\u2424\u240d\u2400", "\u2424\u240d\u2400", true},
		{"\r", " ", false},
		{"\n", " ", false},
		{"\x00", " ", false},
		{"\r\n", "  ", false},
		{"\r\n\x00", "   ", false},
		{"\n\n\n\n", "    ", false},
		{"a\r\nset-cookie: b", "a  set-cookie: b", false},
		{"\na", " a", false},
		{"a\n", "a ", false},
		{"a\rb", "a b", false},
		{"a\x00b", "a b", false},
		{"a\x00", "a ", false},
		{"\xff\n\xc3\r\xa9\x00\x80", "\xff \xc3 \xa9 \x80", false},
		{"\u00e9\n\u00e9", "\u00e9 \u00e9", false},
	} {
		if got := clean.Safe(c.s); got != c.safe {
			t.Errorf("Safe(%q) = %t", c.s, got)
		}
		if got := clean.Clean(c.s); got != c.want {
			t.Errorf("Clean(%q) = %q, want %q", c.s, got, c.want)
		}
	}
}

// P7.1: each byte, alone and in each place among others.
func TestCleanBytes(t *testing.T) {
	for n := range 256 {
		c := one(byte(n))
		want, safe := c, true
		if strings.Contains(breaks, c) {
			want, safe = " ", false
		}
		for _, before := range []string{"", "a", "\xff\x7f ", "abc"} {
			for _, after := range []string{"", "z", " \x01\x80", "xyz"} {
				s := before + c + after
				if got := clean.Safe(s); got != safe {
					t.Errorf("Safe(%q) = %t", s, got)
				}
				if got := clean.Clean(s); got != before+want+after {
					t.Errorf("Clean(%q) = %q", s, got)
				}
			}
		}
	}
}

// P7.1: the place does not matter in long texts either.
func TestCleanPlaces(t *testing.T) {
	for n := range 300 {
		for i := range len(breaks) {
			c := breaks[i : i+1]
			checkClean(t, strings.Repeat("a", n)+c+strings.Repeat("b", 300-n))
			checkClean(t, strings.Repeat(c, n))
			checkClean(t, strings.Repeat("ab"+c, n))
		}
	}
}

// P7.2
func TestQuote(t *testing.T) {
	for _, c := range []struct{ s, want string }{
		{"", `""`},
		{"a", `"a"`},
		{"a b", `"a b"`},
		{"the realm", `"the realm"`},
		{`a"b`, `"a\"b"`},
		{`a\b`, `"a\\b"`},
		{`"`, `"\""`},
		{`\`, `"\\"`},
		{`""`, `"\"\""`},
		{`\\`, `"\\\\"`},
		{`\"`, `"\\\""`},
		{`"\`, `"\"\\"`},
		{`"a"`, `"\"a\""`},
		{`a\`, `"a\\"`},
		{`\n`, `"\\n"`},
		{" ", `" "`},
		{"\t", "\"\t\""},
		{"'", `"'"`},
		{"\u00e9\u20ac", "\"\u00e9\u20ac\""},
		{"\x80\xff\xc3", "\"\x80\xff\xc3\""},
		{"\u201ca\u201d", "\"\u201ca\u201d\""},
	} {
		if got, ok := clean.Quote(c.s); got != c.want || !ok {
			t.Errorf("Quote(%q) = %q, %t, want %q", c.s, got, ok, c.want)
		}
		if got, ok := clean.Unquote(c.want); got != c.s || !ok {
			t.Errorf("Unquote(%q) = %q, %t, want %q", c.want, got, ok, c.s)
		}
	}
}

// P7.2: texts that cannot be quoted.
func TestQuoteWrongTexts(t *testing.T) {
	for _, s := range []string{
		"\r", "\n", "\x00", "\x7f", "\x1f", "\x01", "\x0b", "\x08", "a\r\nb", "a\x00", "\x00a", "a\x7fb", "\"\n", "\n\"", "\\\n", "\\\x00", "\u00e9\n", "\xff\x00", "aaaaaaaaaaaaaaaa\x1b",
	} {
		if got, ok := clean.Quote(s); got != "" || ok {
			t.Errorf("Quote(%q) = %q, %t", s, got, ok)
		}
	}
}

// P7.2
func TestUnquoteWrongTexts(t *testing.T) {
	for _, s := range []string{
		// No quotation mark at the beginning or at the end.
		"", "a", "abc", `"`, `a"`, `"a`, `\`, `\"`, `"\`, `\"a"`, `a"b"`, ` "a"`, `"a" `, `"a"b`, "\t\"a\"", "\"a\"\r\n", "'a'", "`a`", "\u201ca\u201d", "\x00\"a\"", "\"a\"\x00",
		// A quotation mark that has no backslash before it.
		`"""`, `""""`, `"a"b"`, `"a""`, `""a"`, `"a" "b"`, `"a","b"`, `"\\""`, `"\\"a"`, `"\\\\""`,
		// A backslash before the quotation mark at the end.
		`"\"`, `"a\"`, `"\\\"`, `"a\\\"`, `"\"\"`,
		// A backslash before another byte, or at the end.
		`"\a"`, `"\n"`, `"\0"`, `"\ "`, `"\'"`, `"a\b"`, `"\\\a"`, "\"\\\t\"", "\"\\\u00e9\"", "\"\\\xff\"", "\"\\\n\"", "\"\\\x00\"", `"\x"`, `"a\`, `"\\\`, `"a\\`,
		// A byte that is no field byte.
		"\"\n\"", "\"\r\"", "\"\x00\"", "\"\x7f\"", "\"\x1f\"", "\"a\r\nb\"", "\"a\x00\"", "\"\x01a\"", "\"\\\"\n\"", "\"\n\\\"\"",
	} {
		if got, ok := clean.Unquote(s); got != "" || ok {
			t.Errorf("Unquote(%q) = %q, %t", s, got, ok)
		}
	}
}

// P7.2: each byte, alone and in each place among others.
func TestQuoteBytes(t *testing.T) {
	for n := range 256 {
		c := one(byte(n))
		inner, can := c, strings.Contains(field, c)
		if c == `"` || c == `\` {
			inner = `\` + c
		}
		for _, before := range []string{"", "a", "\xff\t ", "abc"} {
			for _, after := range []string{"", "z", " ~\x80", "xyz"} {
				s, want := before+c+after, `"`+before+inner+after+`"`
				if !can {
					checkUnquote(t, want, "", false)
					want = ""
				} else {
					checkUnquote(t, want, s, true)
				}
				if got, ok := clean.Quote(s); got != want || ok != can {
					t.Errorf("Quote(%q) = %q, %t, want %q, %t", s, got, ok, want, can)
				}
			}
		}
	}
}

// P7.2: each byte after a backslash, before the first quotation mark, and after the last.
func TestUnquoteBytes(t *testing.T) {
	for n := range 256 {
		c := one(byte(n))
		escape := c == `"` || c == `\`
		for _, inner := range []string{"", "a", "abc"} {
			want := ""
			if escape {
				want = inner + c + inner
			}
			checkUnquote(t, `"`+inner+`\`+c+inner+`"`, want, escape)
			checkUnquote(t, c+`"`+inner+`"`, "", false)
			checkUnquote(t, `"`+inner+`"`+c, "", false)
			if c != `"` {
				checkUnquote(t, c+inner+`"`, "", false)
				checkUnquote(t, `"`+inner+c, "", false)
			}
		}
	}
}

// P7.2: backslashes count in pairs, however many there are.
func TestBackslashes(t *testing.T) {
	for n := range 300 {
		s := strings.Repeat(`\`, n)
		checkQuote(t, s)
		checkQuote(t, "a"+s+`"`)
		checkQuote(t, `"`+s+"a")
		checkUnquote(t, `"`+s, "", false)
		if n%2 == 1 {
			checkUnquote(t, `"`+s+`"`, "", false)
			checkUnquote(t, `"`+s+`""`, s[:n/2]+`"`, true)
		} else {
			checkUnquote(t, `"`+s+`"`, s[:n/2], true)
			checkUnquote(t, `"`+s+`""`, "", false)
		}
	}
}

// P7.2: of all strings of up to seven of these bytes, those that are quoted texts of texts of up to five.
func TestUnquoteStrings(t *testing.T) {
	const alphabet = "\"\\an\n"
	textOf := map[string]string{}
	for _, s := range texts(alphabet, 5) {
		if quoted, ok := quotedOf(s); ok {
			textOf[quoted] = s
		}
	}
	count := 0
	for _, s := range texts(alphabet, 7) {
		want, is := textOf[s]
		checkUnquote(t, s, want, is)
		if is {
			count++
		}
	}
	// By length of the text without its marks: 1, 2, 6, 16, 44 and 120, where f(n) = 2 f(n-1) + 2 f(n-2).
	if count != 189 {
		t.Errorf("%d strings are quoted texts", count)
	}
}

// P7.3: all texts of up to two bytes.
func TestShortTexts(t *testing.T) {
	checkClean(t, "")
	checkQuote(t, "")
	for first := range 256 {
		checkClean(t, one(byte(first)))
		checkQuote(t, one(byte(first)))
		for second := range 256 {
			s := one(byte(first)) + one(byte(second))
			checkClean(t, s)
			checkQuote(t, s)
		}
	}
}

// P7.3
func TestTexts(t *testing.T) {
	const few = "\"\"\\\\\\a\r\n\x00\t \x7f\xff"
	random := rand.New(rand.NewSource(7))
	for n := range 100000 {
		s := make([]byte, random.Intn(30))
		for i := range s {
			switch n % 3 {
			case 0:
				s[i] = byte(random.Intn(256))
			case 1:
				s[i] = few[random.Intn(len(few))]
			case 2:
				s[i] = field[random.Intn(len(field))]
			}
		}
		checkClean(t, string(s))
		checkQuote(t, string(s))
		if text, ok := clean.Unquote(string(s)); ok {
			checkQuote(t, text)
		} else if text != "" {
			t.Fatalf("Unquote(%q) = %q, false", s, text)
		}
	}
}

// P7.3: long texts, with the quoted text twice as long.
func TestLongTexts(t *testing.T) {
	for _, unit := range []string{"a", `"`, `\`, "\n", "\u00e9", "\x00", `a"\`, " \t"} {
		s := strings.Repeat(unit, 1<<20/len(unit))
		checkClean(t, s)
		checkQuote(t, s)
	}
}
