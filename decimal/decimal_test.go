package decimal_test

import (
	"errors"
	"math"
	"math/big"
	"math/rand"
	"strconv"
	"strings"
	"testing"

	"doorkeeper/api"
	"doorkeeper/decimal"
	"doorkeeper/fault"
)

// greatest is the greatest limit that the chapter permits.
const greatest = 1 << 62

// parser is a function that parses texts to a base.
type parser struct {
	name   string
	parse  func(s string, most int) (int, error)
	base   int
	digits string
}

// parsers are both of them, with all digits of their bases.
var parsers = []parser{
	{"Parse", decimal.Parse, 10, "0123456789"},
	{"ParseHex", decimal.ParseHex, 16, "0123456789abcdefABCDEF"},
}

// checkNumber checks the results for a text whose number is not too great.
func (p parser) checkNumber(t *testing.T, s string, most, want int) {
	t.Helper()
	if got, err := p.parse(s, most); got != want || err != nil {
		t.Fatalf("%s(%q, %d) = %d, %v, want %d", p.name, s, most, got, err, want)
	}
}

// checkFault checks the results for a text that has an error: the error is a fault itself, with no number beside it.
func (p parser) checkFault(t *testing.T, s string, most int, want api.Fault) {
	t.Helper()
	got, err := p.parse(s, most)
	if got != 0 {
		t.Fatalf("%s(%q, %d) = %d with an error", p.name, s, most, got)
	}
	if f, ok := err.(api.Fault); !ok || f != want {
		t.Fatalf("%s(%q, %d): error %#v, want %#v", p.name, s, most, err, want)
	}
}

func (p parser) checkWrong(t *testing.T, s string, most, at int) {
	t.Helper()
	p.checkFault(t, s, most, api.Fault{Status: 400, At: at})
}

func (p parser) checkGreat(t *testing.T, s string, most int) {
	t.Helper()
	p.checkFault(t, s, most, api.Fault{Status: 413, At: 0})
}

// check checks the results for any string, with numbers of any size.
func (p parser) check(t *testing.T, s string, most int) {
	t.Helper()
	at := strings.IndexFunc(s, func(r rune) bool { return !strings.ContainsRune(p.digits, r) })
	if s == "" {
		at = 0
	}
	if at >= 0 {
		p.checkWrong(t, s, most, at)
		return
	}
	n, _ := new(big.Int).SetString(s, p.base)
	if n.Cmp(big.NewInt(int64(most))) > 0 {
		p.checkGreat(t, s, most)
	} else {
		p.checkNumber(t, s, most, int(n.Int64()))
	}
}

// P5.1
func TestParse(t *testing.T) {
	for _, c := range []struct {
		s          string
		most, want int
	}{
		{"0", 0, 0},
		{"0", 100, 0},
		{"00", 0, 0},
		{"000000000000000000000000000000", 0, 0},
		{"7", 7, 7},
		{"007", 7, 7},
		{"007", 100, 7},
		{"9", 9, 9},
		{"10", 10, 10},
		{"99", 100, 99},
		{"100", 100, 100},
		{"1234567890", greatest, 1234567890},
		{"0000000000000000000000000000001234567890", 1234567890, 1234567890},
		{"4294967295", greatest, 1<<32 - 1},
		{"4294967296", greatest, 1 << 32},
		{"4611686018427387903", greatest, greatest - 1},
		{"4611686018427387904", greatest, greatest},
		{"4611686018427387903", greatest - 1, greatest - 1},
		{"0004611686018427387904", greatest, greatest},
	} {
		parsers[0].checkNumber(t, c.s, c.most, c.want)
	}
}

// P5.1
func TestParseOfWrongTexts(t *testing.T) {
	for _, c := range []struct {
		s  string
		at int
	}{
		{"", 0},
		{"a", 0},
		{"12a", 2},
		{"a12", 0},
		{"1a2", 1},
		{"1a2b", 1},
		{"ff", 0},
		{"0x10", 1},
		{"1e3", 1},
		{"1.0", 1},
		{"1_000", 1},
		{"1,000", 1},
		{"-1", 0},
		{"+1", 0},
		{"-0", 0},
		{"- 1", 0},
		{" 1", 0},
		{"1 ", 1},
		{"\t1", 0},
		{"1\r\n", 1},
		{"1\x00", 1},
		{"\x001", 0},
		{"1/", 1},
		{"1:", 1},
		{"1\xff", 1},
		{"1\u0661", 1},
		{"\uff11", 0},
		{"00000000000000000000000x", 23},
	} {
		for _, most := range []int{0, 1, 100, greatest} {
			parsers[0].checkWrong(t, c.s, most, c.at)
		}
	}
}

// P5.1
func TestParseOfGreatNumbers(t *testing.T) {
	for _, c := range []struct {
		s    string
		most int
	}{
		{"1", 0},
		{"9", 0},
		{"9", 8},
		{"01", 0},
		{"10", 0},
		{"10", 9},
		{"101", 100},
		{"110", 100},
		{"200", 100},
		{"1000", 100},
		{"000101", 100},
		{"4611686018427387904", greatest - 1},
		{"4611686018427387905", greatest},
		{"4611686018427387910", greatest},
		{"4611686018427387914", greatest},
		{"9223372036854775807", greatest},
		{"9223372036854775808", greatest},
		{"18446744073709551615", greatest},
		{"18446744073709551616", greatest},
		{"18446744073709551617", greatest},
		{"18446744073709551623", 7},
		{"36893488147419103232", 0},
		{"340282366920938463463374607431768211456", greatest},
		{"340282366920938463463374607431768211457", 1},
		{"99999999999999999999999999999999999999999999999999", greatest},
		{"10000000000000000000000000000000000000000000000000", 0},
	} {
		parsers[0].checkGreat(t, c.s, c.most)
	}
}

// P5.2
func TestParseHex(t *testing.T) {
	for _, c := range []struct {
		s          string
		most, want int
	}{
		{"0", 0, 0},
		{"00000000000000000000000000000000", 0, 0},
		{"9", 9, 9},
		{"a", 10, 10},
		{"A", 10, 10},
		{"f", 15, 15},
		{"F", 15, 15},
		{"10", 16, 16},
		{"ff", 255, 255},
		{"FF", 255, 255},
		{"fF", 255, 255},
		{"Ff", 255, 255},
		{"00ff", 255, 255},
		{"100", 256, 256},
		{"12a", 1000, 298},
		{"0123456789", greatest, 0x123456789},
		{"abcdef", greatest, 0xabcdef},
		{"ABCDEF", greatest, 0xabcdef},
		{"deadBEEF", greatest, 0xdeadbeef},
		{"ffffffff", greatest, 1<<32 - 1},
		{"100000000", greatest, 1 << 32},
		{"3fffffffffffffff", greatest, greatest - 1},
		{"3FFFFFFFFFFFFFFF", greatest - 1, greatest - 1},
		{"4000000000000000", greatest, greatest},
		{"00000000000000000000004000000000000000", greatest, greatest},
	} {
		parsers[1].checkNumber(t, c.s, c.most, c.want)
	}
}

// P5.2
func TestParseHexOfWrongTexts(t *testing.T) {
	for _, c := range []struct {
		s  string
		at int
	}{
		{"", 0},
		{"g", 0},
		{"G", 0},
		{"ffg", 2},
		{"gff", 0},
		{"fgfg", 1},
		{"0x10", 1},
		{"0X10", 1},
		{"x", 0},
		{"10h", 2},
		{"-f", 0},
		{"+f", 0},
		{" f", 0},
		{"f ", 1},
		{"f\t", 1},
		{"f;a", 1},
		{"f\r\n", 1},
		{"f\x00", 1},
		{"a_b", 1},
		{"a.8", 1},
		{"f/", 1},
		{"f:", 1},
		{"f@", 1},
		{"f`", 1},
		{"f\xff", 1},
		{"f\uff21", 1},
		{"00000000000000000000000x", 23},
	} {
		for _, most := range []int{0, 1, 255, greatest} {
			parsers[1].checkWrong(t, c.s, most, c.at)
		}
	}
}

// P5.2
func TestParseHexOfGreatNumbers(t *testing.T) {
	for _, c := range []struct {
		s    string
		most int
	}{
		{"1", 0},
		{"f", 0},
		{"f", 14},
		{"F", 14},
		{"0f", 14},
		{"10", 15},
		{"ff", 254},
		{"100", 255},
		{"1000", 255},
		{"4000000000000000", greatest - 1},
		{"4000000000000001", greatest},
		{"400000000000000f", greatest},
		{"7fffffffffffffff", greatest},
		{"8000000000000000", greatest},
		{"ffffffffffffffff", greatest},
		{"FFFFFFFFFFFFFFFF", greatest},
		{"10000000000000000", greatest},
		{"10000000000000001", 1},
		{"100000000000000000000000000000000", 0},
		{"f0000000000000000000000000000000", greatest},
		{"ffffffffffffffffffffffffffffffffffffffff", greatest},
	} {
		parsers[1].checkGreat(t, c.s, c.most)
	}
}

// P5.1, P5.2: the error is found by the functions of layer 1 and by the library.
func TestStatusOfErrors(t *testing.T) {
	for _, p := range parsers {
		for _, c := range []struct {
			s      string
			status api.Status
			at     int
		}{
			{"", api.BadRequest, 0}, {"123x", api.BadRequest, 3}, {"101", api.ContentTooLarge, 0},
		} {
			_, err := p.parse(c.s, 100)
			if s, ok := fault.Status(err); s != c.status || !ok || !errors.Is(err, c.status) {
				t.Errorf("%s(%q, 100): status %d, %t", p.name, c.s, s, ok)
			}
			if at, ok := fault.At(err); at != c.at || !ok {
				t.Errorf("%s(%q, 100): offset %d, %t", p.name, c.s, at, ok)
			}
		}
	}
}

// P5.1, P5.2: every byte, alone and in every place of a text.
func TestBytes(t *testing.T) {
	for _, p := range parsers {
		for n := range 256 {
			c := byte(n)
			v := strings.IndexByte(p.digits, c)
			if v >= 16 { // one of A to F, which stand after a to f
				v -= 6
			}
			one := string([]byte{c})
			if v >= 0 {
				p.checkNumber(t, one, 15, v)
				p.checkNumber(t, one, v, v)
				p.checkNumber(t, "00"+one, v, v)
				p.checkNumber(t, "1"+one+"0", greatest, p.base*(p.base+v))
				if v > 0 {
					p.checkGreat(t, one, v-1)
				}
				continue
			}
			for i := range 30 {
				before := strings.Repeat("9", i)
				for _, after := range []string{"", "9", "x", one, strings.Repeat("9", 30)} {
					p.checkWrong(t, before+one+after, 15, i)
					p.checkWrong(t, before+one+after, greatest, i)
				}
			}
		}
	}
}

// P5.1, P5.2: a byte that is no digit comes before a number that is too great, wherever it stands.
func TestOrderOfErrors(t *testing.T) {
	for _, p := range parsers {
		for n := range 200 {
			before := strings.Repeat("9", n)
			for _, most := range []int{0, 8, 9, 1000, greatest} {
				p.checkWrong(t, before+"x", most, n)
				p.checkWrong(t, before+"x"+before, most, n)
				p.check(t, before, most)
			}
		}
		for n := range 200 {
			p.checkGreat(t, "1"+strings.Repeat("0", n), 0)
			p.checkNumber(t, strings.Repeat("0", n)+"0", 0, 0)
			p.checkNumber(t, strings.Repeat("0", n)+"7", 7, 7)
			p.checkGreat(t, strings.Repeat("0", n)+"7", 6)
		}
	}
}

// P5.1, P5.2: all numbers and limits that are small.
func TestLimits(t *testing.T) {
	for _, p := range parsers {
		for n := range 300 {
			s := strconv.FormatInt(int64(n), p.base)
			for most := range 300 {
				if n > most {
					p.checkGreat(t, s, most)
				} else {
					p.checkNumber(t, s, most, n)
				}
			}
		}
	}
}

// P5.1, P5.2: numbers beside limits of all sizes.
func TestNumbersBesideLimits(t *testing.T) {
	for _, p := range parsers {
		for shift := range 63 {
			for _, d := range []int{-17, -10, -1, 0, 1, 9, 10, 15, 16} {
				most := min(max(1<<shift+d, 0), greatest)
				for by := -20; by <= 20; by++ {
					n := most + by
					if n < 0 {
						continue
					}
					s := strconv.FormatInt(int64(n), p.base)
					for _, text := range []string{s, strings.ToUpper(s), "000" + s} {
						if by > 0 {
							p.checkGreat(t, text, most)
						} else {
							p.checkNumber(t, text, most, n)
						}
					}
				}
			}
		}
	}
}

// P5.1, P5.2: numbers that are small again when they wrap around 64 bits.
func TestNumbersThatWrap(t *testing.T) {
	for _, p := range parsers {
		for _, bits := range []uint{63, 64, 65, 66, 67, 68, 128, 256} {
			for small := range 40 {
				n := new(big.Int).Lsh(big.NewInt(1), bits)
				s := n.Add(n, big.NewInt(int64(small))).Text(p.base)
				for _, most := range []int{0, 1, 39, 1000, greatest - 1, greatest} {
					p.checkGreat(t, s, most)
				}
			}
		}
	}
}

// P5.1, P5.2
func TestTexts(t *testing.T) {
	random := rand.New(rand.NewSource(5))
	for _, p := range parsers {
		characters := p.digits + "0000" + p.digits + "xg- "
		for range 50000 {
			s := make([]byte, random.Intn(24))
			fine := random.Intn(4) != 0
			for i := range s {
				s[i] = characters[random.Intn(len(characters))]
				if fine {
					s[i] = p.digits[random.Intn(len(p.digits))]
				}
			}
			p.check(t, string(s), int(random.Int63n(greatest+1)>>random.Intn(63)))
			p.check(t, string(s), greatest)
		}
	}
}

// P5.3
func TestText(t *testing.T) {
	for _, c := range []struct {
		n    int
		want string
	}{
		{0, "0"},
		{1, "1"},
		{7, "7"},
		{9, "9"},
		{10, "10"},
		{11, "11"},
		{99, "99"},
		{100, "100"},
		{101, "101"},
		{1000, "1000"},
		{1234567890, "1234567890"},
		{1<<31 - 1, "2147483647"},
		{1 << 32, "4294967296"},
		{999999999999999999, "999999999999999999"},
		{1000000000000000000, "1000000000000000000"},
		{greatest - 1, "4611686018427387903"},
		{greatest, "4611686018427387904"},
		{math.MaxInt, "9223372036854775807"},
	} {
		if got := decimal.Text(c.n); got != c.want {
			t.Errorf("Text(%d) = %q, want %q", c.n, got, c.want)
		}
	}
	for n := range 20000 {
		if got := decimal.Text(n); got != strconv.Itoa(n) {
			t.Fatalf("Text(%d) = %q", n, got)
		}
	}
}

// P5.3: the numbers beside powers of ten and of two.
func TestTextBesidePowers(t *testing.T) {
	check := func(n int) {
		if got := decimal.Text(n); n >= 0 && got != strconv.Itoa(n) {
			t.Errorf("Text(%d) = %q", n, got)
		}
	}
	ten := 1
	for range 19 {
		for by := -2; by <= 2; by++ {
			check(ten + by)
			check(9*(ten/10) + by)
		}
		ten *= 10
	}
	for shift := range 63 {
		for by := -2; by <= 2; by++ {
			check(1<<shift + by)
		}
	}
}

// P5.4
func TestSum(t *testing.T) {
	for _, c := range []struct {
		a, b, most, want int
		ok               bool
	}{
		{0, 0, 0, 0, true},
		{0, 0, 5, 0, true},
		{1, 0, 0, 0, false},
		{0, 1, 0, 0, false},
		{1, 0, 1, 1, true},
		{0, 1, 1, 1, true},
		{2, 3, 5, 5, true},
		{2, 3, 6, 5, true},
		{2, 3, 4, 0, false},
		{6, 0, 5, 0, false},
		{0, 6, 5, 0, false},
		{6, 6, 5, 0, false},
		{greatest, 0, greatest, greatest, true},
		{0, greatest, greatest, greatest, true},
		{greatest - 1, 1, greatest, greatest, true},
		{1, greatest - 1, greatest, greatest, true},
		{greatest / 2, greatest / 2, greatest, greatest, true},
		{greatest/2 + 1, greatest / 2, greatest, 0, false},
		{greatest, 1, greatest, 0, false},
		{1, greatest, greatest, 0, false},
		{greatest, greatest, greatest, 0, false},
		{greatest, greatest - 1, greatest, 0, false},
		{greatest, greatest, 0, 0, false},
		{greatest, 0, greatest - 1, 0, false},
		{0, greatest, greatest - 1, 0, false},
		{greatest, greatest, 1, 0, false},
	} {
		if got, ok := decimal.Sum(c.a, c.b, c.most); got != c.want || ok != c.ok {
			t.Errorf("Sum(%d, %d, %d) = %d, %t, want %d, %t", c.a, c.b, c.most, got, ok, c.want, c.ok)
		}
	}
}

// P5.4: numbers of all sizes.
func TestSums(t *testing.T) {
	numbers := []int{0, 1, 2, 3, 4, 5, 6, 7, greatest}
	for shift := 3; shift < 63; shift += 5 {
		numbers = append(numbers, 1<<shift-1, 1<<shift, min(1<<shift+1, greatest))
	}
	for _, a := range numbers {
		for _, b := range numbers {
			for _, most := range numbers {
				// Two numbers up to 2^62 have a sum in the range of uint64.
				want, fits := uint64(a)+uint64(b), true
				if want > uint64(most) {
					want, fits = 0, false
				}
				if got, ok := decimal.Sum(a, b, most); got != int(want) || ok != fits {
					t.Fatalf("Sum(%d, %d, %d) = %d, %t, want %d, %t", a, b, most, got, ok, want, fits)
				}
			}
		}
	}
}

// P5.5
func TestParseInvertsText(t *testing.T) {
	check := func(n int) {
		s := decimal.Text(n)
		for _, zeros := range []int{0, 1, 2, 30} {
			text := strings.Repeat("0", zeros) + s
			parsers[0].checkNumber(t, text, greatest, n)
			parsers[0].checkNumber(t, text, n, n)
			if n > 0 {
				parsers[0].checkGreat(t, text, n-1)
			}
		}
	}
	for n := range 5000 {
		check(n)
		check(greatest - n)
	}
	random := rand.New(rand.NewSource(55))
	for range 20000 {
		check(int(random.Int63n(greatest+1) >> random.Intn(63)))
	}
}

// Arguments that the chapter leaves open do not make a function panic or go on forever.
func TestOtherArguments(t *testing.T) {
	for _, n := range []int{-1, -9, -10, -greatest, math.MinInt, math.MaxInt} {
		for _, s := range []string{"", "0", "9", "ff", "x", "9223372036854775807", "99999999999999999999"} {
			for _, p := range parsers {
				p.parse(s, n)
			}
		}
		decimal.Text(n)
		for _, m := range []int{0, n, -greatest, math.MinInt, math.MaxInt} {
			decimal.Sum(n, m, n)
			decimal.Sum(m, n, m)
		}
	}
}
