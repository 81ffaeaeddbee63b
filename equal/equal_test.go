package equal_test

import (
	"math/rand"
	"slices"
	"strings"
	"testing"
	"time"

	"doorkeeper/equal"
)

// pair is what a step is called with.
type pair struct{ x, y byte }

// pairsOf returns the pairs of two strings as the chapter defines them.
func pairsOf(a, b string) []pair {
	pairs := make([]pair, max(len(a), len(b)))
	for i := range len(a) {
		pairs[i].x = a[i]
	}
	for i := range len(b) {
		pairs[i].y = b[i]
	}
	return pairs
}

// check checks all functions of two strings, in both orders.
func check(t *testing.T, a, b string) {
	t.Helper()
	checkOrder(t, a, b)
	checkOrder(t, b, a)
}

func checkOrder(t *testing.T, a, b string) {
	t.Helper()
	want := a == b
	if got := equal.Equal(a, b); got != want {
		t.Fatalf("Equal(%q, %q) = %t", a, b, got)
	}
	var pairs []pair
	if got := equal.Walk(a, b, func(x, y byte) { pairs = append(pairs, pair{x, y}) }); got != want {
		t.Fatalf("Walk(%q, %q) = %t", a, b, got)
	}
	if !slices.Equal(pairs, pairsOf(a, b)) {
		t.Fatalf("Walk(%q, %q) has the pairs %v", a, b, pairs)
	}
	if got := equal.Steps(a, b); got != len(pairs) {
		t.Fatalf("Steps(%q, %q) = %d, want %d", a, b, got, len(pairs))
	}
	index := -1
	if want {
		index = 0
	}
	if got := equal.One([]string{a}, b); got != index {
		t.Fatalf("One([%q], %q) = %d", a, b, got)
	}
}

func one(c byte) string { return string([]byte{c}) }

// P6.1
func TestEqual(t *testing.T) {
	for _, c := range []struct {
		a, b string
		want bool
	}{
		{"", "", true},
		{"a", "a", true},
		{"abc", "abc", true},
		{"\x00", "\x00", true},
		{"\xff\x80\xfe", "\xff\x80\xfe", true},
		{"abc", "abd", false},
		{"abc", "xbc", false},
		{"abc", "axc", false},
		{"a", "", false},
		{"a", "b", false},
		{"a", "A", false},
		{"abc", "ab", false},
		{"abc", "bc", false},
		{"abc", "abcd", false},
		{"abc", "abc ", false},
		{"ab", "ba", false},
		{"ac", "bb", false},
		{"aa", "bb", false},
		{"abab", "baba", false},
		{"a", "aa", false},
		{"aa", "aaaa", false},
		{"e\u0301", "\u00e9", false},
		{"\xff", "\ufffd", false},
		{"\x7f", "\xff", false},
	} {
		if got := equal.Equal(c.a, c.b); got != c.want {
			t.Errorf("Equal(%q, %q) = %t", c.a, c.b, got)
		}
		if got := equal.Equal(c.b, c.a); got != c.want {
			t.Errorf("Equal(%q, %q) = %t", c.b, c.a, got)
		}
	}
}

// P6.1: a byte that a string does not have any more is 0, but is no byte of it.
func TestZeroBytes(t *testing.T) {
	for _, s := range []string{"", "a", "abc", "\x00", "a\x00b"} {
		for _, n := range []int{1, 2, 3, 4, 8, 255, 256, 257, 512, 1 << 16, 1<<16 + 1} {
			longer := s + strings.Repeat("\x00", n)
			check(t, s, longer)
			check(t, longer, longer)
			if equal.Equal(s, longer) || equal.Equal(longer, s) {
				t.Errorf("%q is equal to itself with %d zero bytes", s, n)
			}
		}
	}
	check(t, "\x00a", "a")
	check(t, "\x00a", "a\x00")
	check(t, "a\x00b", "ab")
	check(t, "a\x00b", "a")
}

// P6.1, P6.2: all pairs of bytes, alone and among others.
func TestPairsOfBytes(t *testing.T) {
	for x := range 256 {
		for y := range 256 {
			a, b := one(byte(x)), one(byte(y))
			check(t, a, b)
			check(t, "ab"+a+"c", "ab"+b+"c")
			check(t, a+b, b+a)
		}
		check(t, one(byte(x)), "")
	}
}

// P6.1, P6.2: one bit in any place is a difference.
func TestBits(t *testing.T) {
	s := "0123456789abcdefghijklmnopqrstuvwxyz\x00\x7f\x80\xff"
	for i := range len(s) {
		for bit := range 8 {
			other := []byte(s)
			other[i] ^= 1 << bit
			check(t, s, string(other))
		}
	}
}

// P6.1: differences do not cancel each other out, however many there are.
func TestManyDifferences(t *testing.T) {
	for _, n := range []int{1, 2, 3, 4, 128, 255, 256, 257, 512, 768, 1024, 1 << 16, 1 << 17} {
		for _, c := range []pair{{'a', 'b'}, {0, 1}, {0, 128}, {0, 255}, {127, 128}} {
			a, b := strings.Repeat(one(c.x), n), strings.Repeat(one(c.y), n)
			check(t, a, b)
			check(t, a+b, b+a)
			check(t, "x"+a, "x"+b)
			check(t, a, strings.Clone(a))
		}
	}
}

// P6.1, P6.2: all strings of up to three bytes out of a few.
func TestShortStrings(t *testing.T) {
	all := []string{""}
	for i := 0; len(all[i]) < 3; i++ {
		for _, c := range []byte{0, 1, 'a', 'b', 255} {
			all = append(all, all[i]+one(c))
		}
	}
	for _, a := range all {
		for _, b := range all {
			checkOrder(t, a, strings.Clone(b))
		}
	}
}

// P6.1, P6.2: a string and its beginnings and ends.
func TestParts(t *testing.T) {
	s := "the quick brown fox\x00\xff\x00"
	for i := range len(s) + 1 {
		check(t, s, s[:i])
		check(t, s, s[i:])
		check(t, s[:i], s[i:])
		check(t, s, s[i:]+s[:i])
	}
}

// P6.1 to P6.3
func TestStrings(t *testing.T) {
	random := rand.New(rand.NewSource(6))
	for range 50000 {
		a := make([]byte, random.Intn(20))
		for i := range a {
			a[i] = byte(random.Intn(256) * random.Intn(2))
		}
		b := slices.Clone(a)
		if len(b) > 0 && random.Intn(3) > 0 {
			b[random.Intn(len(b))] ^= byte(1 << random.Intn(8))
		}
		b = b[:len(b)-random.Intn(len(b)+1)*random.Intn(2)]
		check(t, string(a), string(b))
	}
}

// P6.2
func TestWalk(t *testing.T) {
	for _, c := range []struct {
		a, b  string
		want  bool
		pairs []pair
	}{
		{"", "", true, nil},
		{"a", "", false, []pair{{'a', 0}}},
		{"", "a", false, []pair{{0, 'a'}}},
		{"a", "a", true, []pair{{'a', 'a'}}},
		{"abc", "abd", false, []pair{{'a', 'a'}, {'b', 'b'}, {'c', 'd'}}},
		{"xbc", "abc", false, []pair{{'x', 'a'}, {'b', 'b'}, {'c', 'c'}}},
		{"abc", "d", false, []pair{{'a', 'd'}, {'b', 0}, {'c', 0}}},
		{"d", "abc", false, []pair{{'d', 'a'}, {0, 'b'}, {0, 'c'}}},
		{"a", "a\x00", false, []pair{{'a', 'a'}, {0, 0}}},
		{"\xff\u00e9", "\xff", false, []pair{{0xff, 0xff}, {0xc3, 0}, {0xa9, 0}}},
	} {
		var pairs []pair
		got := equal.Walk(c.a, c.b, func(x, y byte) { pairs = append(pairs, pair{x, y}) })
		if got != c.want || !slices.Equal(pairs, c.pairs) {
			t.Errorf("Walk(%q, %q) = %t with %v, want %t with %v", c.a, c.b, got, pairs, c.want, c.pairs)
		}
	}
}

// P6.2: a step may walk itself.
func TestWalkInWalk(t *testing.T) {
	var inner []pair
	outer := 0
	got := equal.Walk("abc", "abc", func(x, y byte) {
		outer++
		if equal.Walk("de", "df", func(x, y byte) { inner = append(inner, pair{x, y}) }) {
			t.Errorf("a walk in a walk is true for de and df")
		}
	})
	if !got || outer != 3 {
		t.Errorf("Walk = %t with %d steps, want true with 3", got, outer)
	}
	if want := []pair{{'d', 'd'}, {'e', 'f'}, {'d', 'd'}, {'e', 'f'}, {'d', 'd'}, {'e', 'f'}}; !slices.Equal(inner, want) {
		t.Errorf("a walk in a walk has the pairs %v", inner)
	}
}

// P6.2: a step that is nil, or panics, changes neither the pairs nor the result.
func TestWalkWithoutPanic(t *testing.T) {
	for _, a := range []string{"", "a", "abc", "a\x00"} {
		for _, b := range []string{"", "a", "abc", "abd", "xbc", "a\x00"} {
			if got := equal.Walk(a, b, nil); got != (a == b) {
				t.Errorf("Walk(%q, %q, nil) = %t", a, b, got)
			}
			for _, reason := range []any{"broken", nil, 1} {
				for last := range 4 {
					var pairs []pair
					got := equal.Walk(a, b, func(x, y byte) {
						pairs = append(pairs, pair{x, y})
						if len(pairs) > last {
							panic(reason)
						}
					})
					if got != (a == b) || !slices.Equal(pairs, pairsOf(a, b)) {
						t.Errorf("Walk(%q, %q) with a panic = %t with %v", a, b, got, pairs)
					}
				}
			}
		}
	}
}

// P6.2
func TestSteps(t *testing.T) {
	for _, c := range []struct {
		a, b string
		want int
	}{
		{"", "", 0},
		{"a", "", 1},
		{"", "a", 1},
		{"a", "b", 1},
		{"abc", "abd", 3},
		{"abc", "xyz", 3},
		{"abc", "abc", 3},
		{"abc", "de", 3},
		{"de", "abc", 3},
		{"\u20ac", "a", 3},
		{"a\x00\x00", "a", 3},
		{strings.Repeat("a", 1000), strings.Repeat("b", 999), 1000},
		{strings.Repeat("a", 70000), "", 70000},
	} {
		if got := equal.Steps(c.a, c.b); got != c.want {
			t.Errorf("Steps(%q, %q) = %d, want %d", c.a, c.b, got, c.want)
		}
	}
}

// P6.3
func TestOne(t *testing.T) {
	for _, c := range []struct {
		list []string
		s    string
		want int
	}{
		{nil, "", -1},
		{nil, "a", -1},
		{[]string{}, "", -1},
		{[]string{""}, "", 0},
		{[]string{""}, "a", -1},
		{[]string{"a"}, "", -1},
		{[]string{"a"}, "a", 0},
		{[]string{"a"}, "b", -1},
		{[]string{"a", "b", "c"}, "a", 0},
		{[]string{"a", "b", "c"}, "b", 1},
		{[]string{"a", "b", "c"}, "c", 2},
		{[]string{"a", "b", "c"}, "d", -1},
		{[]string{"a", "b", "c"}, "B", -1},
		{[]string{"a", "b", "c"}, "abc", -1},
		{[]string{"a", "b", "a", "b"}, "a", 0},
		{[]string{"a", "b", "a", "b"}, "b", 1},
		{[]string{"a", "a", "a"}, "a", 0},
		{[]string{"c", "a", "a"}, "a", 1},
		{[]string{"", "a", ""}, "", 0},
		{[]string{"a", "", ""}, "", 1},
		{[]string{"abcd", "ab", "abc", "abc"}, "abc", 2},
		{[]string{"a\x00", "\x00a", "a"}, "a", 2},
		{[]string{"\x00", ""}, "", 1},
		{[]string{"", "\x00\x00", "\x00"}, "\x00", 2},
	} {
		list := slices.Clone(c.list)
		if got := equal.One(list, c.s); got != c.want {
			t.Errorf("One(%q, %q) = %d, want %d", c.list, c.s, got, c.want)
		}
		if !slices.Equal(list, c.list) {
			t.Errorf("One(%q, %q) changes the list to %q", c.list, c.s, list)
		}
	}
}

// P6.3: the first of all places of a text, in lists of all lengths up to six.
func TestPlacesOfOne(t *testing.T) {
	for length := range 7 {
		for places := range 1 << length {
			list := make([]string, length)
			for i := range list {
				list[i] = "abd"
				if places>>i&1 == 1 {
					list[i] = "abc"
				}
			}
			if got, want := equal.One(list, "abc"), slices.Index(list, "abc"); got != want {
				t.Fatalf("One(%q, abc) = %d, want %d", list, got, want)
			}
		}
	}
}

// P6.4
func TestSameLengths(t *testing.T) {
	random := rand.New(rand.NewSource(64))
	text := func(length int) string {
		b := make([]byte, length)
		kind := random.Intn(3)
		for i := range b {
			switch kind {
			case 1:
				b[i] = 'a'
			case 2:
				b[i] = byte(random.Intn(256))
			}
		}
		return string(b)
	}
	for m := range 12 {
		for n := range 12 {
			want := max(m, n)
			for range 30 {
				a, b := text(m), text(n)
				calls := 0
				equal.Walk(a, b, func(x, y byte) { calls++ })
				if steps := equal.Steps(a, b); steps != want || calls != want {
					t.Fatalf("%q and %q have %d steps and %d calls, want %d", a, b, steps, calls, want)
				}
			}
		}
	}
}

// fastest returns the shortest times of two functions, which run in turn. What else the machine does makes a run slower, but never faster.
func fastest(first, second func()) (time.Duration, time.Duration) {
	best := [2]time.Duration{time.Hour, time.Hour}
	for range 20 {
		for i, run := range []func(){first, second} {
			start := time.Now()
			run()
			best[i] = min(best[i], time.Since(start))
		}
	}
	return best[0], best[1]
}

// P6.4: Equal tells nothing of its steps. But one that ended at the first difference would be faster many thousand times where that is the first byte.
func TestEqualGoesOn(t *testing.T) {
	s := strings.Repeat("a", 1<<17)
	same, other := strings.Clone(s), "b"+s[1:]
	early, late := fastest(
		func() {
			if equal.Equal(s, other) {
				t.Error("Equal is true for different strings")
			}
		},
		func() {
			if !equal.Equal(s, same) {
				t.Error("Equal is false for equal strings")
			}
		})
	if early < late/10 {
		t.Errorf("Equal takes %v where the first bytes differ, and %v for equal strings", early, late)
	}
}

// P6.3: One that ended at the first text that is equal would be faster a hundred times where that is the first one.
func TestOneGoesOn(t *testing.T) {
	s := strings.Repeat("a", 1<<11)
	list := slices.Repeat([]string{"b" + s[1:]}, 100)
	begin, end := slices.Clone(list), slices.Clone(list)
	begin[0], end[99] = s, s
	early, late := fastest(
		func() {
			if got := equal.One(begin, s); got != 0 {
				t.Errorf("One = %d, want 0", got)
			}
		},
		func() {
			if got := equal.One(end, s); got != 99 {
				t.Errorf("One = %d, want 99", got)
			}
		})
	if early < late/10 {
		t.Errorf("One takes %v for the first text of a list, and %v for the last one", early, late)
	}
}
