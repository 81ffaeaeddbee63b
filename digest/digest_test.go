package digest_test

import (
	"crypto/sha256"
	"encoding/hex"
	"math/rand"
	"strings"
	"testing"

	"doorkeeper/digest"
)

const lower = "0123456789abcdef"

// digestOf returns the digest of a string by the library.
func digestOf(s string) [32]byte {
	return sha256.Sum256([]byte(s))
}

// hexOf returns the hexadecimal digits by the library.
func hexOf(d [32]byte) string {
	return hex.EncodeToString(d[:])
}

// checkSum checks Sum, and the functions of its result.
func checkSum(t *testing.T, s string) {
	t.Helper()
	want := digestOf(s)
	if got := digest.Sum(s); got != want {
		t.Fatalf("Sum(%.80q), of %d bytes, = %x, want %x", s, len(s), got, want)
	}
	checkHex(t, want)
}

// checkHex checks Hex, and Parse with its result.
func checkHex(t *testing.T, d [32]byte) {
	t.Helper()
	want := hexOf(d)
	if got := digest.Hex(d); got != want {
		t.Fatalf("Hex(%x) = %q", d, got)
	}
	if got, ok := digest.Parse(want); got != d || !ok {
		t.Fatalf("Parse(%q) = %x, %t", want, got, ok)
	}
}

// checkWrong checks that Parse rejects a string.
func checkWrong(t *testing.T, s string) {
	t.Helper()
	if got, ok := digest.Parse(s); got != [32]byte{} || ok {
		t.Fatalf("Parse(%.80q), of %d bytes, = %x, %t", s, len(s), got, ok)
	}
}

// randomDigest returns 32 random bytes.
func randomDigest(random *rand.Rand) [32]byte {
	var d [32]byte
	random.Read(d[:])
	return d
}

// randomString returns n random bytes.
func randomString(random *rand.Rand, n int) string {
	b := make([]byte, n)
	random.Read(b)
	return string(b)
}

// P8.1
func TestSum(t *testing.T) {
	for _, c := range []struct{ s, want string }{
		{"", "e3b0c44298fc1c149afbf4c8996fb92427ae41e4649b934ca495991b7852b855"},
		{"abc", "ba7816bf8f01cfea414140de5dae2223b00361a396177a9cb410ff61f20015ad"},
		{"a", "ca978112ca1bbdcafac231b39a23dc4da786eff8147c4e72b9807785afee48bb"},
		{"The quick brown fox jumps over the lazy dog", "d7a8fbb307d7809469ca9abcb0082e4f8d5651e46d3cdb762d02d0bf37c9e592"},
		{"abcdbcdecdefdefgefghfghighijhijkijkljklmklmnlmnomnopnopq", "248d6a61d20638b8e5c026930c3e6039a33ce45964ff2167f6ecedd419db06c1"},
		{"abcdefghbcdefghicdefghijdefghijkefghijklfghijklmghijklmnhijklmnoijklmnopjklmnopqklmnopqrlmnopqrsmnopqrstnopqrstu", "cf5b16a778af8380036ce59e7b0492370b249b11e8f07a51afac45037afee9d1"},
		{strings.Repeat("a", 1000000), "cdc76e5c9914fb9281a1c7e284d73e67f1809a48a497200e046d39ccc7112cd0"},
	} {
		if got := hexOf(digest.Sum(c.s)); got != c.want {
			t.Errorf("Sum(%.80q), of %d bytes, = %s, want %s", c.s, len(c.s), got, c.want)
		}
	}
}

// P8.1: all lengths of up to ten blocks, with what stands before and after the padding in its last blocks.
func TestSumLengths(t *testing.T) {
	random := rand.New(rand.NewSource(81))
	for n := range 641 {
		for _, unit := range []string{"a", "\x00", "\x80", "\xff", "\x7f"} {
			checkSum(t, strings.Repeat(unit, n))
		}
		for range 5 {
			checkSum(t, randomString(random, n))
		}
	}
}

// P8.1: all strings of up to two bytes.
func TestSumShort(t *testing.T) {
	b := make([]byte, 2)
	for n := range 1 << 16 {
		b[0], b[1] = byte(n>>8), byte(n)
		checkSum(t, string(b))
		if n < 256 {
			checkSum(t, string(b[1:]))
		}
	}
}

// P8.1: each bit of a string of three blocks matters.
func TestSumBits(t *testing.T) {
	zeros := make([]byte, 192)
	seen := map[[32]byte]bool{digest.Sum(string(zeros)): true}
	for i := range 8 * len(zeros) {
		zeros[i/8] = 1 << (i % 8)
		checkSum(t, string(zeros))
		seen[digest.Sum(string(zeros))] = true
		zeros[i/8] = 0
	}
	if len(seen) != 8*len(zeros)+1 {
		t.Errorf("%d digests", len(seen))
	}
}

// P8.1: the lengths around the powers of 2, whose bits fill more and more bytes.
func TestSumLong(t *testing.T) {
	random := rand.New(rand.NewSource(82))
	for n := 512; n <= 1<<20; n *= 2 {
		for _, more := range []int{-9, -8, -1, 0, 1, 55, 56} {
			checkSum(t, randomString(random, n+more))
		}
	}
}

// P8.1: the number of bits is one of more than 4 bytes.
func TestSumVeryLong(t *testing.T) {
	const n = 1<<29 + 3
	s := strings.Repeat("a", n)
	hash := sha256.New()
	part := []byte(s[:1<<20])
	for i := 0; i < n; i += len(part) {
		hash.Write(part[:min(len(part), n-i)])
	}
	if got := digest.Sum(s); got != [32]byte(hash.Sum(nil)) {
		t.Errorf("Sum of %d bytes = %x", n, got)
	}
}

// P8.1: an earlier call does not matter.
func TestSumAgain(t *testing.T) {
	for range 3 {
		for _, s := range []string{"abc", "", strings.Repeat("b", 200), "abd"} {
			checkSum(t, s)
		}
	}
}

// P8.2: each byte in each place.
func TestHexBytes(t *testing.T) {
	for i := range 32 {
		for n := range 256 {
			for _, other := range []byte{0, 0x9a, 255} {
				var d [32]byte
				for j := range d {
					d[j] = other
				}
				d[i] = byte(n)
				checkHex(t, d)
			}
		}
	}
}

// P8.2
func TestHex(t *testing.T) {
	d := [32]byte{0x01, 0x23, 0x45, 0x67, 0x89, 0xab, 0xcd, 0xef, 0xf0, 0x0f, 31: 0xa0}
	want := "0123456789abcdeff00f" + strings.Repeat("0", 42) + "a0"
	if got := digest.Hex(d); got != want {
		t.Errorf("Hex(%x) = %q", d, got)
	}
	if got, ok := digest.Parse(want); got != d || !ok {
		t.Errorf("Parse(%q) = %x, %t", want, got, ok)
	}
	if got := digest.Hex([32]byte{}); got != strings.Repeat("0", 64) {
		t.Errorf("Hex of zeros = %q", got)
	}
}

// P8.2: wrong lengths, with right digits only.
func TestParseLengths(t *testing.T) {
	for n := range 400 {
		for _, unit := range []string{"0", "9", "a", "f"} {
			s := strings.Repeat(unit, n)
			if n != 64 {
				checkWrong(t, s)
			} else if got, ok := digest.Parse(s); hexOf(got) != s || !ok {
				t.Errorf("Parse(%q) = %x, %t", s, got, ok)
			}
		}
	}
	checkWrong(t, strings.Repeat("0", 1<<20))
}

// P8.2: each byte in each place of 64; only the 16 digits are right there.
func TestParseBytes(t *testing.T) {
	for i := range 64 {
		for n := range 256 {
			b := []byte(strings.Repeat("5a", 32))
			b[i] = byte(n)
			if strings.IndexByte(lower, byte(n)) < 0 {
				checkWrong(t, string(b))
			} else if got, ok := digest.Parse(string(b)); hexOf(got) != string(b) || !ok {
				t.Fatalf("Parse(%q) = %x, %t", b, got, ok)
			}
		}
	}
}

// P8.2
func TestParseWrongStrings(t *testing.T) {
	right := strings.Repeat("0123456789abcdef", 4)
	for _, s := range []string{
		strings.ToUpper(right),
		right[:63] + "F",
		"A" + right[1:],
		right + "\n",
		right[:63] + "\n",
		" " + right,
		" " + right[1:],
		right[:63] + " ",
		"0x" + right,
		"0x" + right[2:],
		"+" + right[1:],
		"-" + right[1:],
		right[:32] + ":" + right[33:],
		right[:31] + "\u00e9" + right[33:],
		right[:62] + "\u0660",
		right[:61] + "\uff11",
		right[:63] + "g",
		right[:63] + "\x00",
		right + "\x00",
		right + right,
		right[:62],
		strings.Repeat("z", 64),
		strings.Repeat("\u00e9", 32),
		strings.Repeat("\u00e9", 64),
	} {
		checkWrong(t, s)
	}
}

// P8.3
func TestSalted(t *testing.T) {
	for _, c := range []struct{ salt, user, password string }{
		{"", "", ""},
		{"salt", "", ""},
		{"", "user", ""},
		{"", "", "password"},
		{"salt", "user", "password"},
		{"s", "u", ""},
		{"s", "", "p"},
		{"", "u", "p"},
		{"u", "s", "p"},
		{"s", "p", "u"},
		{":", ":", ":"},
		{"a:b", "c", "d"},
		{"a", "b:c", "d"},
		{"a", "b", "c:d"},
		{" ", "\t", "\r\n"},
		{"\x00", "\xff", "\u00e9"},
		{"Salt", "USER", "PassWord"},
		{strings.Repeat("s", 100), strings.Repeat("u", 200), strings.Repeat("p", 300)},
	} {
		want := hexOf(digestOf(c.salt + ":" + c.user + ":" + c.password))
		if got := digest.Salted(c.salt, c.user, c.password); got != want {
			t.Errorf("Salted(%q, %q, %q) = %q, want %q", c.salt, c.user, c.password, got, want)
		}
	}
	const want = "df708c58948c179249b7b57a96e0a1f33d0344f72bd34e87c38b1ba567b9b863"
	if got := digest.Salted("abc", "user", "pw"); got != want {
		t.Errorf("Salted(abc, user, pw) = %q", got)
	}
}

// P8.3: all lengths of each part around those of the padding.
func TestSaltedLengths(t *testing.T) {
	random := rand.New(rand.NewSource(83))
	for range 3000 {
		salt, user, password := randomString(random, random.Intn(70)), randomString(random, random.Intn(70)), randomString(random, random.Intn(70))
		want := hexOf(digestOf(salt + ":" + user + ":" + password))
		if got := digest.Salted(salt, user, password); got != want {
			t.Fatalf("Salted(%q, %q, %q) = %q, want %q", salt, user, password, got, want)
		}
	}
}

// P8.4
func TestParseInvertsHex(t *testing.T) {
	random := rand.New(rand.NewSource(84))
	for range 100000 {
		d := randomDigest(random)
		if got, ok := digest.Parse(digest.Hex(d)); got != d || !ok {
			t.Fatalf("Parse(Hex(%x)) = %x, %t", d, got, ok)
		}
		b := []byte(hexOf(randomDigest(random)))
		if random.Intn(2) == 0 {
			b[random.Intn(len(b))] = byte(random.Intn(256))
		}
		if got, ok := digest.Parse(string(b)); ok != (strings.Trim(string(b), lower) == "") || ok && digest.Hex(got) != string(b) {
			t.Fatalf("Parse(%q) = %x, %t", b, got, ok)
		}
	}
}
