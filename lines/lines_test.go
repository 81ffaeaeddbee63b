package lines_test

import (
	"math"
	"math/rand"
	"slices"
	"strings"
	"sync"
	"testing"

	"doorkeeper/lines"
)

const (
	cr = "\r"
	lf = "\n"
	// small are a byte of lines, the bytes of line ends, and the bytes that differ from those only in the highest bit.
	small = "a\r\n\x8d\x8a"
)

// stateAt returns the state that the byte at an index of a string leads to by the definition, if no byte before it is wrong.
func stateAt(s string, i, most int) int {
	after := i > 0 && s[i-1] == '\r'
	switch {
	case after && s[i] == '\n':
		return lines.Done
	case after || s[i] == '\n':
		return lines.Bad
	case s[i] == '\r':
		return lines.More
	case i-(strings.LastIndex(s[:i], lf)+1) >= max(most, 0):
		return lines.Long
	}
	return lines.More
}

// result is what Split returns.
type result struct {
	lines []string
	n     int
	state int
}

// resultOf returns the result of Split by the definition.
func resultOf(s string, most int) result {
	n, state := 0, lines.Done
	for n < len(s) && state != lines.Bad && state != lines.Long {
		state = stateAt(s, n, most)
		n++
	}
	taken := s[:n]
	if state == lines.Bad {
		taken = s[:n-1]
	}
	all := strings.Split(taken, cr+lf)
	return result{all[:len(all)-1], n, state}
}

func same(a, b result) bool {
	return slices.Equal(a.lines, b.lines) && a.n == b.n && a.state == b.state
}

// checkSplit checks Split against a result.
func checkSplit(t *testing.T, s string, most int, want result) {
	t.Helper()
	var got result
	got.lines, got.n, got.state = lines.Split(s, most)
	if !same(got, want) {
		t.Fatalf("Split(%.80q, %d), of %d bytes, = %.80q, %d, %d, want %.80q, %d, %d", s, most, len(s), got.lines, got.n, got.state, want.lines, want.n, want.state)
	}
}

// checkPut checks the state, the line and Open after each byte of a string, and some bytes after a wrong one.
func checkPut(t *testing.T, s string, most int) {
	t.Helper()
	r := lines.New(most)
	state, line, start := lines.Done, "", 0
	for i := -1; i < len(s); i++ {
		if i >= 0 {
			if state != lines.Bad && state != lines.Long {
				state = stateAt(s, i, most)
			}
			if got := r.Put(s[i]); got != state {
				t.Fatalf("limit %d: Put of the byte %d of %.80q = %d, want %d", most, i, s, got, state)
			}
		}
		if i >= 0 && state == lines.Done {
			line, start = s[start:i-1], i+1
		}
		for range 2 {
			if r.Line() != line || r.Open() != (state != lines.Done) {
				t.Fatalf("limit %d: after %d bytes of %.80q: %.80q, %t", most, i+1, s, r.Line(), r.Open())
			}
		}
	}
}

// eachString calls a function for all strings of up to n bytes of an alphabet.
func eachString(alphabet string, n int, call func(s string)) {
	call("")
	level := []string{""}
	for range n {
		var next []string
		for _, s := range level {
			for i := range len(alphabet) {
				next = append(next, s+alphabet[i:i+1])
			}
		}
		for _, s := range next {
			call(s)
		}
		level = next
	}
}

// randomText returns a string of lines, of which some have a wrong byte.
func randomText(random *rand.Rand, most int) string {
	var b strings.Builder
	for range random.Intn(6) {
		for range random.Intn(most + 2) {
			b.WriteByte(byte(random.Intn(256)))
			if random.Intn(50) == 0 {
				b.WriteByte(small[random.Intn(len(small))])
			}
		}
		b.WriteString(cr + lf)
	}
	return b.String()
}

func TestStates(t *testing.T) {
	if lines.More != 0 || lines.Done != 1 || lines.Bad != 2 || lines.Long != 3 {
		t.Errorf("%d, %d, %d, %d", lines.More, lines.Done, lines.Bad, lines.Long)
	}
}

func TestNil(t *testing.T) {
	var r *lines.Reader
	for n := range 256 {
		if got := r.Put(byte(n)); got != lines.Bad {
			t.Errorf("Put(%d) = %d", n, got)
		}
	}
	if r.Line() != "" || r.Open() {
		t.Errorf("%q, %t", r.Line(), r.Open())
	}
}

// P9.1, P9.2
func TestNew(t *testing.T) {
	for _, most := range []int{math.MinInt, -1, 0, 1, 1 << 20, math.MaxInt} {
		r := lines.New(most)
		if r == nil || r.Line() != "" || r.Open() {
			t.Errorf("New(%d): %q, %t", most, r.Line(), r.Open())
		}
	}
}

// P9.1: each pair of a byte and the state after it, with the state written out.
func TestPut(t *testing.T) {
	type step struct {
		c     byte
		state int
		line  string
		open  bool
	}
	for _, c := range []struct {
		most  int
		steps []step
	}{
		{5, []step{{'a', 0, "", true}, {13, 0, "", true}, {10, 1, "a", false}, {'b', 0, "a", true}, {13, 0, "a", true}, {10, 1, "b", false}, {13, 0, "b", true}, {10, 1, "", false}, {'c', 0, "", true}}},
		{5, []step{{10, 2, "", true}, {13, 2, "", true}, {10, 2, "", true}, {'a', 2, "", true}}},
		{5, []step{{13, 0, "", true}, {13, 2, "", true}, {10, 2, "", true}, {13, 2, "", true}, {10, 2, "", true}}},
		{5, []step{{13, 0, "", true}, {'a', 2, "", true}, {13, 2, "", true}, {10, 2, "", true}}},
		{5, []step{{'a', 0, "", true}, {10, 2, "", true}, {'b', 2, "", true}}},
		{5, []step{{13, 0, "", true}, {10, 1, "", false}, {10, 2, "", true}}},
		{2, []step{{'a', 0, "", true}, {'b', 0, "", true}, {13, 0, "", true}, {10, 1, "ab", false}, {'c', 0, "ab", true}, {'d', 0, "ab", true}, {'e', 3, "ab", true}, {13, 3, "ab", true}, {10, 3, "ab", true}, {'f', 3, "ab", true}}},
		{2, []step{{'a', 0, "", true}, {'b', 0, "", true}, {10, 2, "", true}}},
		{2, []step{{'a', 0, "", true}, {'b', 0, "", true}, {13, 0, "", true}, {'c', 2, "", true}}},
		{0, []step{{13, 0, "", true}, {10, 1, "", false}, {13, 0, "", true}, {10, 1, "", false}, {'a', 3, "", true}}},
		{-7, []step{{13, 0, "", true}, {10, 1, "", false}, {0, 3, "", true}, {10, 3, "", true}}},
		{0, []step{{10, 2, "", true}}},
	} {
		r := lines.New(c.most)
		for i, s := range c.steps {
			if got := r.Put(s.c); got != s.state || r.Line() != s.line || r.Open() != s.open {
				t.Errorf("limit %d: after %d of %v: %d, %q, %t", c.most, i+1, c.steps, got, r.Line(), r.Open())
			}
		}
	}
}

// P9.1: each byte in each place of a line, with room for it and without.
func TestPutBytes(t *testing.T) {
	for n := range 256 {
		c := string([]byte{byte(n)})
		for _, before := range []string{"", "a", "aa", cr, "a" + cr, cr + lf, "ab" + cr + lf, "ab" + cr + lf + cr, "ab" + cr + lf + "c", "ab" + cr + lf + "cd", lf, cr + cr, "\x00", "\x8d", "\xff"} {
			for most := range 4 {
				checkPut(t, before+c+"x"+cr+lf, most)
				checkPut(t, before+c+cr+lf, most)
				checkPut(t, before+c+lf, most)
			}
		}
	}
}

// P9.1, P9.2: a byte after a wrong one is not taken, whatever it is.
func TestPutAfterWrong(t *testing.T) {
	for _, s := range []string{lf, cr + cr, cr + "a", "ab" + lf, "abcd", "ab" + cr + lf + lf, "ab" + cr + lf + cr + "c", "ab" + cr + lf + "abcd"} {
		r := lines.New(3)
		var state int
		for i := range len(s) {
			state = r.Put(s[i])
		}
		if state != lines.Bad && state != lines.Long {
			t.Fatalf("%q: %d", s, state)
		}
		line := r.Line()
		for range 3 {
			for n := range 256 {
				if got := r.Put(byte(n)); got != state || r.Line() != line || !r.Open() {
					t.Fatalf("%q, then %d: %d, %q, %t", s, n, got, r.Line(), r.Open())
				}
			}
		}
	}
}

// P9.1 to P9.4: all strings of up to 6 bytes of small, and of up to 8 bytes without its last two.
func TestAllStrings(t *testing.T) {
	for most := -1; most < 5; most++ {
		eachString(small, 6, func(s string) {
			checkPut(t, s, most)
			checkSplit(t, s, most, resultOf(s, most))
		})
		eachString("a\r\n", 8, func(s string) {
			checkPut(t, s, most)
			checkSplit(t, s, most, resultOf(s, most))
		})
	}
}

// P9.1, P9.2: the lengths of lines around the limit.
func TestLimits(t *testing.T) {
	for most := range 300 {
		for n := max(most-2, 0); n < most+3; n++ {
			line := strings.Repeat("x", n)
			checkPut(t, line+cr+lf, most)
			checkPut(t, line+lf, most)
			checkPut(t, line+cr+line, most)
			want := result{[]string{"", line}, n + 4, lines.Done}
			if n > most {
				want = result{[]string{""}, most + 3, lines.Long}
			}
			checkSplit(t, cr+lf+line+cr+lf, most, want)
		}
	}
}

// P9.1, P9.3: the limit is one for each line, not for all.
func TestLimitOfEachLine(t *testing.T) {
	const n = 10000
	checkSplit(t, strings.Repeat("abc"+cr+lf, n), 3, result{slices.Repeat([]string{"abc"}, n), 5 * n, lines.Done})
	checkSplit(t, strings.Repeat(cr+lf, n), 0, result{make([]string, n), 2 * n, lines.Done})
}

// P9.1, P9.2: limits and lines of a great length.
func TestLongLines(t *testing.T) {
	const n = 1 << 22
	line := strings.Repeat("x", n)
	for _, most := range []int{n, n + 1, math.MaxInt} {
		checkSplit(t, line+cr+lf+line+cr, most, result{[]string{line}, 2*n + 3, lines.More})
	}
	checkSplit(t, line+cr+lf, n-1, result{nil, n, lines.Long})
	checkSplit(t, line, math.MinInt, result{nil, 1, lines.Long})
}

// P9.2: a line stays as it is when others follow.
func TestLineStays(t *testing.T) {
	r := lines.New(9)
	var got []string
	want := []string{"abc", "xyz", "", "a", "longer", "b"}
	for _, s := range want {
		for _, c := range []byte(s + cr + lf) {
			r.Put(c)
		}
		got = append(got, r.Line())
	}
	if !slices.Equal(got, want) {
		t.Errorf("%q", got)
	}
}

// P9.2: the bytes of the next line, also those that are wrong, do not change the last one.
func TestLineBeforeNext(t *testing.T) {
	for _, next := range []string{"", "x", "xyz", cr, "x" + cr, lf, "x" + lf, cr + cr, cr + "x", "xyzx"} {
		for _, c := range []struct{ s, want string }{
			{"", ""},
			{cr + lf, ""},
			{"abc" + cr + lf, "abc"},
			{"abc" + cr + lf + "d" + cr + lf, "d"},
			{"abc" + cr + lf + cr + lf, ""},
		} {
			r := lines.New(3)
			for _, b := range []byte(c.s + next) {
				r.Put(b)
			}
			if r.Line() != c.want || r.Open() != (next != "") {
				t.Errorf("%q: %q, %t", c.s+next, r.Line(), r.Open())
			}
		}
	}
}

// P9.1: readers do not depend on each other.
func TestReaders(t *testing.T) {
	a, b := lines.New(2), lines.New(1)
	for i, c := range []byte("xy" + cr + lf) {
		a.Put(c)
		if state := b.Put("z\r\n\n"[i]); state != []int{lines.More, lines.More, lines.Done, lines.Bad}[i] {
			t.Errorf("%d: %d", i, state)
		}
	}
	if a.Line() != "xy" || a.Open() || b.Line() != "z" || !b.Open() {
		t.Errorf("%q, %t, %q, %t", a.Line(), a.Open(), b.Line(), b.Open())
	}
}

// P9.3
func TestSplit(t *testing.T) {
	for _, c := range []struct {
		s    string
		most int
		want result
	}{
		{"a\r\nb", 9, result{[]string{"a"}, 4, lines.More}},
		{"\n", 9, result{nil, 1, lines.Bad}},
		{"", 9, result{nil, 0, lines.Done}},
		{"", 0, result{nil, 0, lines.Done}},
		{"", -1, result{nil, 0, lines.Done}},
		{"a", 9, result{nil, 1, lines.More}},
		{"\r", 9, result{nil, 1, lines.More}},
		{"a\r", 9, result{nil, 2, lines.More}},
		{"\r\n", 9, result{[]string{""}, 2, lines.Done}},
		{"a\r\n", 9, result{[]string{"a"}, 3, lines.Done}},
		{"a\r\n\r", 9, result{[]string{"a"}, 4, lines.More}},
		{"a\r\n\r\n", 9, result{[]string{"a", ""}, 5, lines.Done}},
		{"\r\n\r\nab\r\nc d\r\n", 9, result{[]string{"", "", "ab", "c d"}, 13, lines.Done}},
		{"a\nb\r\n", 9, result{nil, 2, lines.Bad}},
		{"a\r\n\nb", 9, result{[]string{"a"}, 4, lines.Bad}},
		{"a\r\r\nb\r\n", 9, result{nil, 3, lines.Bad}},
		{"a\rb\r\n", 9, result{nil, 3, lines.Bad}},
		{"a\n\rb", 9, result{nil, 2, lines.Bad}},
		{"a\r\nb\rc\r\n", 9, result{[]string{"a"}, 6, lines.Bad}},
		{"ab\r\nabc\r\n", 3, result{[]string{"ab", "abc"}, 9, lines.Done}},
		{"ab\r\nabc\r\n", 2, result{[]string{"ab"}, 7, lines.Long}},
		{"abc\r\n", 2, result{nil, 3, lines.Long}},
		{"ab\r\n", 1, result{nil, 2, lines.Long}},
		{"abc\n", 2, result{nil, 3, lines.Long}},
		{"ab\n", 2, result{nil, 3, lines.Bad}},
		{"ab\rc", 2, result{nil, 4, lines.Bad}},
		{"\r\n\r\n", 0, result{[]string{"", ""}, 4, lines.Done}},
		{"\r\na", 0, result{[]string{""}, 3, lines.Long}},
		{"\r\na\r\n", -5, result{[]string{""}, 3, lines.Long}},
		{"a", math.MinInt, result{nil, 1, lines.Long}},
		{"a\r\n", math.MaxInt, result{[]string{"a"}, 3, lines.Done}},
		{" \t\x00\xff\x7f\r\n\u2028\u0085\v\f\r\n", 9, result{[]string{" \t\x00\xff\x7f", "\u2028\u0085\v\f"}, 16, lines.Done}},
		{"\u010d\u010a\r\n", 9, result{[]string{"\u010d\u010a"}, 6, lines.Done}},
		{"\xc3\r\n", 9, result{[]string{"\xc3"}, 3, lines.Done}},
	} {
		checkSplit(t, c.s, c.most, c.want)
		if got := resultOf(c.s, c.most); !same(got, c.want) {
			t.Errorf("resultOf(%q, %d) = %v", c.s, c.most, got)
		}
	}
}

// P9.3: what is done to a result does not matter for the next one.
func TestSplitAgain(t *testing.T) {
	const s = "ab\r\ncd\r\n"
	for range 3 {
		checkSplit(t, s, 9, result{[]string{"ab", "cd"}, 8, lines.Done})
		first, _, _ := lines.Split(s, 9)
		first[0], first[1] = "x", "y"
	}
}

// P9.3
func TestSplitConcurrently(t *testing.T) {
	var group sync.WaitGroup
	for i := range 8 {
		group.Go(func() {
			random := rand.New(rand.NewSource(int64(i)))
			for range 500 {
				most := random.Intn(12)
				s := randomText(random, most)
				var got result
				got.lines, got.n, got.state = lines.Split(s, most)
				if want := resultOf(s, most); !same(got, want) {
					t.Errorf("Split(%q, %d) = %q, %d, %d", s, most, got.lines, got.n, got.state)
				}
			}
		})
	}
	group.Wait()
}

// P9.4: the lines that Put completes are those of Split, with the same state, and the same number of bytes up to a wrong one.
func TestPutAndSplit(t *testing.T) {
	random := rand.New(rand.NewSource(94))
	seen := map[int]int{}
	for range 20000 {
		most := random.Intn(12)
		s := randomText(random, most)
		s = s[:random.Intn(len(s)+1)]
		checkPut(t, s, most)
		checkSplit(t, s, most, resultOf(s, most))
		got := result{state: lines.Done}
		r := lines.New(most)
		for got.n < len(s) && got.state != lines.Bad && got.state != lines.Long {
			got.state = r.Put(s[got.n])
			got.n++
			if got.state == lines.Done {
				got.lines = append(got.lines, r.Line())
			}
		}
		checkSplit(t, s, most, got)
		seen[got.state]++
	}
	for state := range 4 {
		if seen[state] < 100 {
			t.Errorf("state %d: %d", state, seen[state])
		}
	}
}

// P9.4: a string that is divided after a line has the same lines.
func TestSplitParts(t *testing.T) {
	for most := range 4 {
		eachString("a\r\n", 8, func(s string) {
			want := resultOf(s, most)
			for i := range len(s) + 1 {
				first, n, state := lines.Split(s[:i], most)
				if state != lines.Done {
					continue
				}
				second, m, end := lines.Split(s[i:], most)
				if got := (result{append(first, second...), n + m, end}); n != i || !same(got, want) {
					t.Fatalf("%q divided at %d: %v, want %v", s, i, got, want)
				}
			}
		})
	}
}
