package lists_test

import (
	"fmt"
	"math/rand"
	"regexp"
	"slices"
	"strings"
	"sync"
	"testing"

	"doorkeeper/lists"
)

// The parts of values. Bytes that are not UTF-8 match a negated class, too.
var (
	element = regexp.MustCompile(`[^, \t]([^,]*[^, \t])?`)
	token   = regexp.MustCompile("\\A[A-Za-z0-9!#$%&'*+.^_`|~-]+\\z")
)

// lower returns a text with small letters in place of A to Z.
func lower(s string) string {
	text := []byte(s)
	for i, c := range text {
		if c >= 'A' && c <= 'Z' {
			text[i] = c + 32
		}
	}
	return string(text)
}

// elementsOf returns the elements of values by the definition.
func elementsOf(values []string) []string {
	var elements []string
	for _, value := range values {
		elements = append(elements, element.FindAllString(value, -1)...)
	}
	return elements
}

// tokensOf returns the result of Tokens for values with these elements.
func tokensOf(elements []string) ([]string, bool) {
	var tokens []string
	for _, e := range elements {
		if !token.MatchString(e) {
			return nil, false
		}
		tokens = append(tokens, lower(e))
	}
	return tokens, len(tokens) > 0
}

// hasOf returns the result of Has for values with these elements.
func hasOf(word string, elements []string) bool {
	return slices.ContainsFunc(elements, func(e string) bool {
		return lower(e) == lower(word)
	})
}

// check checks Elements, Tokens and Has against the elements of values.
func check(t *testing.T, values []string, elements []string) {
	t.Helper()
	if got := lists.Elements(values...); !slices.Equal(got, elements) {
		t.Fatalf("Elements(%.80q) = %.80q, want %.80q", values, got, elements)
	}
	tokens, ok := tokensOf(elements)
	if got, gotOK := lists.Tokens(values...); !slices.Equal(got, tokens) || gotOK != ok {
		t.Fatalf("Tokens(%.80q) = %.80q, %t, want %.80q, %t", values, got, gotOK, tokens, ok)
	}
	for _, word := range []string{"a", "B", "", ",", " ", "a b", "\x80"} {
		checkHas(t, word, values, hasOf(word, elements))
	}
}

// checkHas checks Has against its result.
func checkHas(t *testing.T, word string, values []string, want bool) {
	t.Helper()
	if got := lists.Has(word, values...); got != want {
		t.Fatalf("Has(%.80q, %.80q) = %t, want %t", word, values, got, want)
	}
}

// checkOne checks the functions against the definition, for one value.
func checkOne(t *testing.T, value string) {
	t.Helper()
	values := []string{value}
	check(t, values, elementsOf(values))
}

// eachByte calls a function for all bytes.
func eachByte(call func(c string)) {
	for n := range 256 {
		call(string([]byte{byte(n)}))
	}
}

// eachList calls a function for all lists of up to n texts.
func eachList(texts []string, n int, call func(list []string)) {
	call(nil)
	if n == 0 {
		return
	}
	for _, text := range texts {
		eachList(texts, n-1, func(list []string) {
			call(append([]string{text}, list...))
		})
	}
}

// P12.1: the results are written out.
func TestElements(t *testing.T) {
	for _, c := range []struct{ values, want []string }{
		{[]string{"a, ,b", "C"}, []string{"a", "b", "C"}},
		{[]string{"a"}, []string{"a"}},
		{[]string{"a b"}, []string{"a b"}},
		{[]string{"a,b"}, []string{"a", "b"}},
		{[]string{"b , a\t,\tb"}, []string{"b", "a", "b"}},
		{[]string{" \t a \t b\t ,c "}, []string{"a \t b", "c"}},
		{[]string{",a,,b,"}, []string{"a", "b"}},
		{[]string{"a,", ",b"}, []string{"a", "b"}},
		{[]string{"a", "b"}, []string{"a", "b"}},
		{[]string{"", "a", " ", "b,c", ","}, []string{"a", "b", "c"}},
		{[]string{"A", "a", "A"}, []string{"A", "a", "A"}},
		{[]string{"c", "b", "a"}, []string{"c", "b", "a"}},

		{[]string{`"a,b", c`}, []string{`"a`, `b"`, "c"}},
		{[]string{`a\,b`}, []string{`a\`, "b"}},
		{[]string{"a;b=c"}, []string{"a;b=c"}},
		{[]string{"\na\r\n, \v b\f"}, []string{"\na\r\n", "\v b\f"}},
		{[]string{"\x00,\xff, \x80 "}, []string{"\x00", "\xff", "\x80"}},
		{[]string{"\u00a0a\u2003,\uff0c"}, []string{"\u00a0a\u2003", "\uff0c"}},

		{nil, nil},
		{[]string{}, nil},
		{[]string{""}, nil},
		{[]string{"", ""}, nil},
		{[]string{" ", "\t", " \t "}, nil},
		{[]string{","}, nil},
		{[]string{" ,\t, ,", ",,,"}, nil},
	} {
		if got := elementsOf(c.values); !slices.Equal(got, c.want) {
			t.Errorf("the definition gives %q for %q", got, c.values)
		}
		check(t, c.values, c.want)
	}
}

// P12.2: the results are written out.
func TestTokens(t *testing.T) {
	for _, c := range []struct{ values, want []string }{
		{[]string{"a, ,b", "C"}, []string{"a", "b", "c"}},
		{[]string{"Chunked"}, []string{"chunked"}},
		{[]string{"GZIP,\tChunked , "}, []string{"gzip", "chunked"}},
		{[]string{"a", "", "A", "a"}, []string{"a", "a", "a"}},
		{[]string{"!#$%&'*+-.^_`|~09AZaz"}, []string{"!#$%&'*+-.^_`|~09azaz"}},

		{nil, nil},
		{[]string{""}, nil},
		{[]string{",", " ", "\t,"}, nil},
		{[]string{"a b"}, nil},
		{[]string{"a\tb"}, nil},
		{[]string{"a b, c"}, nil},
		{[]string{"a, b c, d"}, nil},
		{[]string{"a, b c"}, nil},
		{[]string{"a", "b", "c d"}, nil},
		{[]string{"a b", "c"}, nil},
		{[]string{"a;q=1"}, nil},
		{[]string{`"a"`, "b"}, nil},
		{[]string{"a/b"}, nil},
		{[]string{"a\x00"}, nil},
		{[]string{"a\r"}, nil},
		{[]string{"\x80"}, nil},
		{[]string{"\u212a"}, nil},
		{[]string{"a", "\u00a0"}, nil},
	} {
		got, ok := lists.Tokens(c.values...)
		if !slices.Equal(got, c.want) || ok != (c.want != nil) {
			t.Errorf("Tokens(%q) = %q, %t, want %q", c.values, got, ok, c.want)
		}
	}
}

// P12.3: the results are written out.
func TestHas(t *testing.T) {
	values := []string{"Close, keep-alive", "", " a b ,\x80x", "c;d=E", "last"}
	for _, word := range []string{
		"close", "Close", "CLOSE", "keep-alive", "Keep-Alive", "a b", "A B", "\x80x", "\x80X", "c;d=e", "C;D=E", "last", "LAST",
	} {
		checkHas(t, word, values, true)
	}
	for _, word := range []string{
		"", " ", ",", "clos", "closed", "lose", "close ", " close", "close,", "close, keep-alive", "keep", "alive", "a", "b",
		" a b ", "a  b", "a\tb", "x", "\x80", "\x81x", "\ufffdx", "c", "d", "c;d", "la\x00st", "last\x00", "la", "st", "clo\u017fe", "\u212aeep-alive",
	} {
		checkHas(t, word, values, false)
	}
	for _, word := range []string{"", "a", ","} {
		checkHas(t, word, nil, false)
		checkHas(t, word, []string{}, false)
		checkHas(t, word, []string{"", " ", ",,", "\t"}, false)
	}
}

// P12.3: only the case of letters does not matter. Some characters fold to letters in Unicode, and some bytes differ by 32 like letters do.
func TestWordsAreBytes(t *testing.T) {
	eachByte(func(c string) {
		eachByte(func(d string) {
			// A letter on both sides keeps spaces and tabs in the element; with a comma it is two elements.
			checkHas(t, "N"+d+"n", []string{"x,n" + c + "N"}, lower(c) == lower(d) && c != ",")
		})
	})
	for _, pair := range [][2]string{{"k", "\u212a"}, {"s", "\u017f"}, {"\u00e9", "\u00c9"}, {"i", "\u0130"}, {"\x80", "\u0080"}, {"\xff", "\ufffd"}, {"\xfe", "\xff"}} {
		checkHas(t, pair[0], []string{pair[1]}, false)
		checkHas(t, pair[1], []string{pair[0]}, false)
		checkHas(t, pair[1], []string{pair[1]}, true)
	}
}

// P12.3: an element is found wherever it is, also if it is there several times.
func TestHasEverywhere(t *testing.T) {
	eachList([]string{"x", "Y", "x,y", "", "x, Word", "wORD", "word ,Y,WORD", "words"}, 4, func(values []string) {
		checkHas(t, "worD", values, hasOf("worD", elementsOf(values)))
	})
}

// P12.1 to P12.3: all values of few pieces.
func TestOneValue(t *testing.T) {
	eachList([]string{",", " ", "\t", "a", "B", "(", "\x80"}, 6, func(pieces []string) {
		checkOne(t, strings.Join(pieces, ""))
	})
}

// P12.1 to P12.3: all lists of few values. A value ends an element.
func TestSeveralValues(t *testing.T) {
	eachList([]string{"", ",", " ", "a", "B,", ",\ta", "a b", "(", "b , A", "\x80,\x80", " c"}, 4, func(values []string) {
		check(t, values, elementsOf(values))
	})
}

// P12.1 to P12.3: each byte in each place, with or without the one that was there, and each beginning and end.
func TestBytes(t *testing.T) {
	for _, s := range []string{"gzip, Chunked", "a", " , b\t,", "a b ,\tc d", ""} {
		for i := range len(s) + 1 {
			checkOne(t, s[:i])
			checkOne(t, s[i:])
			eachByte(func(c string) {
				checkOne(t, s[:i]+c+s[i:])
				checkOne(t, s[:max(i-1, 0)]+c+s[i:])
			})
		}
	}
}

// P12.1 to P12.3: all pairs of bytes, as a value and as two.
func TestPairs(t *testing.T) {
	eachByte(func(c string) {
		eachByte(func(d string) {
			checkOne(t, c+d)
			check(t, []string{c, d}, elementsOf([]string{c, d}))
		})
	})
}

// P12.1 to P12.3: long values, and many of them.
func TestLong(t *testing.T) {
	const size = 1 << 20
	long, spaces, commas := strings.Repeat("aB", size), strings.Repeat(" \t", size), strings.Repeat(", ", size)
	for _, c := range []struct{ values, want []string }{
		{[]string{long}, []string{long}},
		{[]string{spaces + long + spaces}, []string{long}},
		{[]string{commas + "a" + commas + "B" + commas}, []string{"a", "B"}},
		{[]string{spaces, commas, spaces}, nil},
		{[]string{"a" + spaces + "b," + long}, []string{"a" + spaces + "b", long}},
		{make([]string, size), nil},
		{append(make([]string, size), "b"), []string{"b"}},
		{[]string{strings.Repeat("A,", size)}, slices.Repeat([]string{"A"}, size)},
		{slices.Repeat([]string{" a"}, size), slices.Repeat([]string{"a"}, size)},
		{append(slices.Repeat([]string{"c"}, size), "b"), append(slices.Repeat([]string{"c"}, size), "b")},
		{append(slices.Repeat([]string{"c"}, size), "("), append(slices.Repeat([]string{"c"}, size), "(")},
	} {
		check(t, c.values, c.want)
	}
}

// P12.1 to P12.3: random bytes, and values in which some bytes are changed.
func TestRandom(t *testing.T) {
	random := rand.New(rand.NewSource(12))
	const bytes = "aB ,\t(\x00\x80"
	for range 100000 {
		s := []byte("gzip, deflate\t,Chunked ,a")
		for range random.Intn(4) {
			s[random.Intn(len(s))] = bytes[random.Intn(len(bytes))]
		}
		checkOne(t, string(s))
		s = s[:random.Intn(len(s))]
		for i := range s {
			s[i] = byte(random.Intn(256))
		}
		checkOne(t, string(s))
	}
}

// P12.4
func TestJoin(t *testing.T) {
	for _, c := range []struct {
		list []string
		want string
	}{
		{nil, ""},
		{[]string{}, ""},
		{[]string{""}, ""},
		{[]string{"a"}, "a"},
		{[]string{"GET", "HEAD", "OPTIONS"}, "GET, HEAD, OPTIONS"},
		{[]string{"b", "a", "b"}, "b, a, b"},
		{[]string{"", ""}, ", "},
		{[]string{"", "a", "", ""}, ", a, , "},
		{[]string{" a ", "\tb"}, " a , \tb"},
		{[]string{"a,b", ",", ", "}, "a,b, ,, , "},
		{[]string{"\x00", "\xff\r\n", "%s"}, "\x00, \xff\r\n, %s"},
	} {
		if got := lists.Join(c.list); got != c.want {
			t.Errorf("Join(%q) = %q, want %q", c.list, got, c.want)
		}
	}
	eachByte(func(c string) {
		if got := lists.Join([]string{c, c}); got != c+", "+c {
			t.Errorf("Join of %q = %q", c, got)
		}
	})
}

// checkJoined checks that the elements of joined tokens are these tokens.
func checkJoined(t *testing.T, tokens []string) {
	t.Helper()
	value := lists.Join(tokens)
	if got := lists.Elements(value); !slices.Equal(got, tokens) {
		t.Fatalf("Elements(Join(%.80q)) = %.80q", tokens, got)
	}
	got, ok := lists.Tokens(value)
	if lower := lower(value); lists.Join(got) != lower || ok != (len(tokens) > 0) {
		t.Fatalf("Tokens(Join(%.80q)) = %.80q, %t", tokens, got, ok)
	}
}

// P12.5
func TestElementsOfJoin(t *testing.T) {
	eachList([]string{"a", "B", "keep-alive", "!#$%&'*+-.^_`|~", "0"}, 6, func(tokens []string) {
		checkJoined(t, tokens)
	})
	eachByte(func(c string) {
		if token.MatchString(c) {
			checkJoined(t, []string{c})
			checkJoined(t, []string{c, c + c, "a" + c})
		}
	})
	var many []string
	for i := range 100000 {
		many = append(many, fmt.Sprint("Token-", i))
	}
	checkJoined(t, many)
}

// Arguments stay as they are, also behind the ends of slices.
func TestArgumentsStay(t *testing.T) {
	values := []string{"A, ,b", " C\t", "d e", "", "behind"}
	old := slices.Clone(values)
	for n := range len(values) {
		lists.Elements(values[:n]...)
		lists.Tokens(values[:n]...)
		lists.Has("c", values[:n]...)
		lists.Join(values[:n])
	}
	if !slices.Equal(values, old) {
		t.Errorf("%q", values)
	}
}

// Results share no memory with arguments and each other.
func TestResultsShareNothing(t *testing.T) {
	values := []string{"a", "b"}
	want := slices.Clone(values)
	elements, other := lists.Elements(values...), lists.Elements(values...)
	tokens, _ := lists.Tokens(values...)
	joined := lists.Join(values)
	values[0] = "changed"
	other[1] = "changed"
	_ = append(other[:cap(other)], "more")
	if !slices.Equal(elements, want) || !slices.Equal(tokens, want) || joined != "a, b" {
		t.Errorf("%q, %q, %q", elements, tokens, joined)
	}
}

// The functions may be called concurrently.
func TestConcurrent(t *testing.T) {
	values := []string{"gzip, Chunked", "a"}
	var group sync.WaitGroup
	for range 8 {
		group.Go(func() {
			for range 100 {
				if got := lists.Join(lists.Elements(values...)); got != "gzip, Chunked, a" {
					t.Error(got)
				}
				if got, ok := lists.Tokens(values...); lists.Join(got) != "gzip, chunked, a" || !ok {
					t.Error(got, ok)
				}
				if !lists.Has("CHUNKED", values...) || lists.Has("b", values...) {
					t.Error("Has")
				}
			}
		})
	}
	group.Wait()
}
