package base64_test

import (
	"bytes"
	library "encoding/base64"
	"errors"
	"math/rand"
	"slices"
	"strings"
	"testing"

	"doorkeeper/api"
	"doorkeeper/base64"
	"doorkeeper/fault"
)

const digits = "ABCDEFGHIJKLMNOPQRSTUVWXYZabcdefghijklmnopqrstuvwxyz0123456789+/"

// right are bytes with their texts.
var right = []struct{ b, text string }{
	{"", ""},
	{"f", "Zg=="},
	{"fo", "Zm8="},
	{"foo", "Zm9v"},
	{"foob", "Zm9vYg=="},
	{"fooba", "Zm9vYmE="},
	{"foobar", "Zm9vYmFy"},
	{"Aladdin:open sesame", "QWxhZGRpbjpvcGVuIHNlc2FtZQ=="},
	{"A", "QQ=="},
	{"\x00", "AA=="},
	{"\x00\x00", "AAA="},
	{"\x00\x00\x00", "AAAA"},
	{"\x00\x00\x00\x00", "AAAAAA=="},
	{"\xff", "/w=="},
	{"\xff\xff", "//8="},
	{"\xff\xff\xff", "////"},
	{"\xfb\xef\xbe", "++++"},
	{"\xfb", "+w=="},
	{"\x01", "AQ=="},
	{"\x00\x01", "AAE="},
	{"\x00\x00\x01", "AAAB"},
	{"\x80\x00\x00", "gAAA"},
	{"\x00\x10\x83\x10\x51\x87\x20\x92\x8b", "ABCDEFGHIJKL"},
	{":", "Og=="},
	{"\u00e9\u20ac", "w6nigqw="},
}

// wrong are strings that are no texts, with the offsets of their errors.
var wrong = []struct {
	s  string
	at int
}{
	// The length is no multiple of 4, whatever else is wrong.
	{"A", 1},
	{"=", 1},
	{"AA", 2},
	{"==", 2},
	{"QQ", 2},
	{"QUI", 3},
	{"QQ=", 3},
	{"===", 3},
	{"QR=", 3},
	{"-", 1},
	{"!!!!!", 5},
	{"AAAAA", 5},
	{"AAAAA=", 6},
	{"QQ==\n", 5},
	{"QR==A", 5},
	{"\u20ac", 3},
	// A character is no digit, whatever bits were added.
	{"QQ=A", 2},
	{"Q===", 1},
	{"====", 0},
	{"Q=Q=", 1},
	{"=QQQ", 0},
	{"=QQ=", 0},
	{"Q=QQ", 1},
	{"=A==", 0},
	{"A=A=", 1},
	{"AA=B", 2},
	{"QQ==QQ==", 2},
	{"QQI=QQ==", 3},
	{"QR==QQ==", 2},
	{"AAAA====", 4},
	{"AAAAA===", 5},
	{"========", 0},
	{"AAAA=AAA", 4},
	{"-AAA", 0},
	{"A_AA", 1},
	{"AA A", 2},
	{"AAA\n", 3},
	{"AAA\x00", 3},
	{"AA\r\n", 2},
	{" QQ==   ", 0},
	{"QQ== \t\r\n", 2},
	{"-R==", 0},
	{"Q-==", 1},
	{"R-==", 1},
	{"QQ-=", 2},
	{"QR-=", 2},
	{"-QB=", 0},
	{"A\u20ac", 1},
	{"AAAAAA\u00e9", 6},
	{"\u20acA", 0},
	{"\uff21A", 0},
	{"AAAAAAA.", 7},
	{"AAAAAA,=", 6},
	{"AA-AA.A?", 2},
	// Bits that were added are not zero.
	{"QR==", 1},
	{"AB==", 1},
	{"AI==", 1},
	{"AP==", 1},
	{"//==", 1},
	{"AAB=", 2},
	{"AAC=", 2},
	{"AAD=", 2},
	{"///=", 2},
	{"AAAAAB==", 5},
	{"AAAAAAB=", 6},
	{"QWxhZGRpbjpvcGVuIHNlc2FtZR==", 25},
}

// checkWrong checks the results of Decode for a string that is no text.
func checkWrong(t *testing.T, s string, at int) {
	t.Helper()
	got, err := base64.Decode(s)
	if len(got) != 0 {
		t.Errorf("Decode(%q) = %q with an error", s, got)
	}
	if f, ok := err.(api.Fault); !ok || f != (api.Fault{Status: 400, At: at}) {
		t.Errorf("Decode(%q): error %#v, want the offset %d", s, err, at)
	}
}

// P4.1
func TestEncode(t *testing.T) {
	for _, c := range right {
		if got := base64.Encode([]byte(c.b)); got != c.text {
			t.Errorf("Encode(%q) = %q, want %q", c.b, got, c.text)
		}
	}
	if got := base64.Encode(nil); got != "" {
		t.Errorf("Encode(nil) = %q", got)
	}
}

// P4.1: each value of a digit, in each place.
func TestDigits(t *testing.T) {
	for n := range 64 {
		for place := range 4 {
			bits := n << (18 - 6*place)
			b := []byte{byte(bits >> 16), byte(bits >> 8), byte(bits)}
			want := []byte("AAAA")
			want[place] = digits[n]
			if got := base64.Encode(b); got != string(want) {
				t.Errorf("Encode(%q) = %q, want %q", b, got, want)
			}
			if got, err := base64.Decode(string(want)); !bytes.Equal(got, b) || err != nil {
				t.Errorf("Decode(%q) = %q, %v, want %q", want, got, err, b)
			}
		}
	}
}

// P4.1, P4.2: all texts of one and two bytes.
func TestShortTexts(t *testing.T) {
	check := func(b ...byte) {
		text := library.StdEncoding.EncodeToString(b)
		if got := base64.Encode(b); got != text {
			t.Fatalf("Encode(%q) = %q, want %q", b, got, text)
		}
		if got, err := base64.Decode(text); !bytes.Equal(got, b) || err != nil {
			t.Fatalf("Decode(%q) = %q, %v, want %q", text, got, err, b)
		}
	}
	for first := range 256 {
		check(byte(first))
		for second := range 256 {
			check(byte(first), byte(second))
		}
	}
}

// P4.1: Encode neither changes its bytes nor reads those beyond their end.
func TestEncodeKeepsBytes(t *testing.T) {
	for n := range 12 {
		all := []byte("abcdefghijklmnopqrstuvwxyz")
		b := all[3 : 3+n]
		want := library.StdEncoding.EncodeToString([]byte("defghijklmnopqrst"[:n]))
		if got := base64.Encode(b); got != want {
			t.Errorf("Encode(%q) = %q, want %q", b, got, want)
		}
		if string(all) != "abcdefghijklmnopqrstuvwxyz" {
			t.Fatalf("Encode of %d bytes made %q of their memory", n, all)
		}
	}
}

// P4.1
func TestSize(t *testing.T) {
	for _, c := range []struct{ n, want int }{
		{0, 0}, {1, 4}, {2, 4}, {3, 4}, {4, 8}, {5, 8}, {6, 8}, {7, 12}, {19, 28}, {299, 400}, {300, 400}, {301, 404},
		{1<<30 - 2, 1431655764}, {1<<30 - 1, 1431655764}, {1 << 30, 1431655768},
	} {
		if got := base64.Size(c.n); got != c.want {
			t.Errorf("Size(%d) = %d, want %d", c.n, got, c.want)
		}
	}
	for n := range 2000 {
		if got, want := base64.Size(n), len(base64.Encode(make([]byte, n))); got != want {
			t.Errorf("Size(%d) = %d, want %d", n, got, want)
		}
	}
}

// P4.2
func TestDecode(t *testing.T) {
	for _, c := range right {
		if got, err := base64.Decode(c.text); string(got) != c.b || err != nil {
			t.Errorf("Decode(%q) = %q, %v, want %q", c.text, got, err, c.b)
		}
	}
}

// P4.2: the error is a fault itself, with nothing beside it.
func TestDecodeWrongTexts(t *testing.T) {
	for _, c := range wrong {
		checkWrong(t, c.s, c.at)
		_, err := base64.Decode(c.s)
		if s, ok := fault.Status(err); s != api.BadRequest || !ok || !errors.Is(err, api.BadRequest) {
			t.Errorf("Decode(%q): status %d, %t", c.s, s, ok)
		}
		if at, ok := fault.At(err); at != c.at || !ok {
			t.Errorf("Decode(%q): offset %d, %t", c.s, at, ok)
		}
	}
}

// P4.2: every byte that is no digit, in every place of a text.
func TestWrongBytes(t *testing.T) {
	for _, text := range []string{"Zm9v", "Zm9vYmFy", "Zm9vYmE=", "Zm9vYg==", "Zm9vYmB=", "Zm9vYh=="} {
		end := len(strings.TrimRight(text, "="))
		for n := range 256 {
			if strings.IndexByte(digits, byte(n)) >= 0 {
				continue
			}
			for i := range end {
				s := []byte(text)
				s[i] = byte(n)
				// An equals sign in the place of the last digit is one at the end, as long as there are two of them at most.
				if n == '=' && i == end-1 && end > len(text)-2 {
					continue
				}
				checkWrong(t, string(s), i)
			}
		}
	}
}

// P4.2: only digits and equals signs may stand in the places of equals signs.
func TestBytesForEqualsSigns(t *testing.T) {
	for n := range 256 {
		c := byte(n)
		digit := strings.IndexByte(digits, c) >= 0
		if digit || c == '=' {
			continue
		}
		checkWrong(t, string([]byte{'A', 'A', 'A', c}), 3)
		checkWrong(t, string([]byte{'A', 'A', c, c}), 2)
		checkWrong(t, string([]byte{'A', 'A', c, '='}), 2)
		checkWrong(t, string([]byte{'A', 'A', '=', c}), 2)
	}
	for _, c := range []byte(digits) {
		checkWrong(t, string([]byte{'A', 'A', '=', c}), 2)
	}
}

// P4.2: bits that were added, for every last digit.
func TestAddedBits(t *testing.T) {
	for value, digit := range []byte(digits) {
		for _, before := range []string{"", "Zm9v", "////"} {
			one := before + "Z" + string(rune(digit)) + "=="
			if got, err := base64.Decode(one); value%16 != 0 {
				checkWrong(t, one, len(before)+1)
			} else if base64.Encode(got) != one || err != nil {
				t.Errorf("Decode(%q) = %q, %v", one, got, err)
			}
			two := before + "Zm" + string(rune(digit)) + "="
			if got, err := base64.Decode(two); value%4 != 0 {
				checkWrong(t, two, len(before)+2)
			} else if base64.Encode(got) != two || err != nil {
				t.Errorf("Decode(%q) = %q, %v", two, got, err)
			}
			three := before + "Zm9" + string(rune(digit))
			if got, err := base64.Decode(three); base64.Encode(got) != three || err != nil {
				t.Errorf("Decode(%q) = %q, %v", three, got, err)
			}
		}
	}
}

// P4.2: every length that is no multiple of 4.
func TestLengths(t *testing.T) {
	for n := range 200 {
		s := strings.Repeat("A", n)
		got, err := base64.Decode(s)
		if n%4 != 0 {
			checkWrong(t, s, n)
			checkWrong(t, strings.Repeat("=", n), n)
			checkWrong(t, strings.Repeat("-", n), n)
		} else if !bytes.Equal(got, make([]byte, n/4*3)) || err != nil {
			t.Errorf("Decode(%q) = %q, %v", s, got, err)
		}
	}
}

// P4.2: the results of two calls share no memory.
func TestDecodeMemory(t *testing.T) {
	first, _ := base64.Decode("Zm9vYg==")
	second, _ := base64.Decode("Zm9vYg==")
	_ = append(first[:0], "other"...)
	if string(second) != "foob" {
		t.Errorf("the second result is %q", second)
	}
}

// P4.3
func TestDecodeInvertsEncode(t *testing.T) {
	random := rand.New(rand.NewSource(4))
	for n := range 3000 {
		b := make([]byte, n%100)
		random.Read(b)
		before := slices.Clone(b)
		text := base64.Encode(b)
		got, err := base64.Decode(text)
		if !bytes.Equal(got, before) || !bytes.Equal(b, before) || err != nil {
			t.Fatalf("Decode(%q) = %q, %v, want %q", text, got, err, before)
		}
		if len(text) != base64.Size(len(b)) || text != library.StdEncoding.EncodeToString(b) {
			t.Fatalf("Encode(%q) = %q", b, text)
		}
	}
}

// wrongAt returns the offset that the chapter asks for, and whether a string is no text.
func wrongAt(s string) (int, bool) {
	if len(s)%4 != 0 {
		return len(s), true
	}
	end := len(strings.TrimSuffix(strings.TrimSuffix(s, "="), "="))
	for i := range end {
		if strings.IndexByte(digits, s[i]) < 0 {
			return i, true
		}
	}
	if _, err := library.StdEncoding.Strict().DecodeString(s); err != nil {
		return end - 1, true
	}
	return 0, false
}

// P4.2, P4.3: each string is the text of what it decodes to, or has the error that the chapter asks for.
func TestTexts(t *testing.T) {
	const characters = "AQgwBP/9+==--\n"
	random := rand.New(rand.NewSource(44))
	for range 50000 {
		s := make([]byte, random.Intn(4)+random.Intn(10))
		for i := range s {
			s[i] = characters[random.Intn(len(characters)-random.Intn(4))]
		}
		for i := range min(len(s), random.Intn(4)) {
			s[len(s)-1-i] = '='
		}
		text := string(s)
		if at, bad := wrongAt(text); bad {
			checkWrong(t, text, at)
		} else if got, err := base64.Decode(text); base64.Encode(got) != text || err != nil {
			t.Fatalf("Decode(%q) = %q, %v", text, got, err)
		}
	}
}

// P4.2, P4.3: all strings of four of these characters.
func TestGroups(t *testing.T) {
	const characters = "AEQBg/9+=-"
	for n := range 10000 {
		s := string([]byte{characters[n/1000], characters[n/100%10], characters[n/10%10], characters[n%10]})
		if at, bad := wrongAt(s); bad {
			checkWrong(t, s, at)
		} else if got, err := base64.Decode(s); base64.Encode(got) != s || err != nil {
			t.Fatalf("Decode(%q) = %q, %v", s, got, err)
		}
	}
}
