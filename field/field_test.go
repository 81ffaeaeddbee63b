package field_test

import (
	"fmt"
	"math"
	"math/rand"
	"regexp"
	"slices"
	"strings"
	"sync"
	"testing"

	"doorkeeper/api"
	"doorkeeper/field"
)

// The parts of field lines. Bytes that are not UTF-8 match a negated class, too.
var (
	token   = regexp.MustCompile("\\A[A-Za-z0-9!#$%&'*+.^_`|~-]+\\z")
	noField = regexp.MustCompile(`[\x00-\x08\x0a-\x1f\x7f]`)
)

// result is what Parse returns, without its error if this is nil.
type result struct {
	field api.Field
	err   api.Fault
}

func wrong(at int) result {
	return result{err: api.Fault{Status: 400, At: at}}
}

func right(name, value string) result {
	return result{field: api.Field{Name: name, Value: value}}
}

// list returns the fields whose names and values follow each other.
func list(texts ...string) []api.Field {
	var l []api.Field
	for pair := range slices.Chunk(texts, 2) {
		l = append(l, api.Field{Name: pair[0], Value: pair[1]})
	}
	return l
}

// show returns the beginnings of the parts of a field.
func show(f api.Field) string {
	return fmt.Sprintf("{%.80q %.80q}", f.Name, f.Value)
}

// lower returns a text with small letters in place of A to Z.
func lower(s string) string {
	text := []byte(s)
	for i, c := range text {
		if c >= 'A' && c <= 'Z' {
			text[i] = c + 32
		}
	}
	return string(text)
}

// resultOf returns the result of Parse by the definition.
func resultOf(s string) result {
	colon := strings.Index(s, ":")
	if s == "" || s[0] == ' ' || s[0] == '\t' || colon < 0 || !token.MatchString(s[:colon]) {
		return wrong(0)
	}
	if place := noField.FindStringIndex(s[colon+1:]); place != nil {
		return wrong(colon + 1 + place[0])
	}
	return right(lower(s[:colon]), strings.Trim(s[colon+1:], " \t"))
}

// faultOf returns the fault that an error is, and a zero one for nil.
func faultOf(t *testing.T, err error) api.Fault {
	t.Helper()
	if err == nil {
		return api.Fault{}
	}
	f, ok := err.(api.Fault)
	if !ok {
		t.Fatalf("the error is a %T", err)
	}
	if f == (api.Fault{}) {
		t.Fatal("the error is a zero fault")
	}
	return f
}

// checkParse checks Parse against a result, and for each field that it returns that its text has the same field (P11.5).
func checkParse(t *testing.T, s string, want result) {
	t.Helper()
	f, err := field.Parse(s)
	got := result{f, faultOf(t, err)}
	if got != want {
		t.Fatalf("Parse(%.80q) = %s, %+v, want %s, %+v", s, show(got.field), got.err, show(want.field), want.err)
	}
	if err != nil {
		return
	}
	again, err := field.Parse(field.Text(f))
	if again != f || err != nil {
		t.Fatalf("Parse(Text(%s)) = %s, %v", show(f), show(again), err)
	}
}

// check checks Parse against the definition.
func check(t *testing.T, s string) {
	t.Helper()
	checkParse(t, s, resultOf(s))
}

// eachByte calls a function for all bytes.
func eachByte(call func(c string)) {
	for n := range 256 {
		call(string([]byte{byte(n)}))
	}
}

// eachString calls a function for all strings of up to n pieces of a list.
func eachString(pieces []string, n int, call func(s string)) {
	call("")
	if n == 0 {
		return
	}
	for _, piece := range pieces {
		eachString(pieces, n-1, func(s string) {
			call(piece + s)
		})
	}
}

// P11.1, P11.5: the results are written out.
func TestParse(t *testing.T) {
	for _, c := range []struct {
		s    string
		want result
	}{
		{"Content-Length:  12", right("content-length", "12")},
		{"Host: a", right("host", "a")},
		{"host:a", right("host", "a")},
		{"HOST:a ", right("host", "a")},
		{"Host:\ta\t", right("host", "a")},
		{"Host: \t \ta b\tc \t ", right("host", "a b\tc")},
		{"a:", right("a", "")},
		{"a: ", right("a", "")},
		{"a: \t ", right("a", "")},
		{"a::", right("a", ":")},
		{"a:b:c", right("a", "b:c")},
		{"a: b: c :", right("a", "b: c :")},
		{"a:A-Z \"q\" (c), \\", right("a", "A-Z \"q\" (c), \\")},
		{"a: \xff\x80\xa0\x85 ", right("a", "\xff\x80\xa0\x85")},
		{"a: \u00a0b\u2003", right("a", "\u00a0b\u2003")},
		{"!#$%&'*+-.^_`|~09azAZ: !~", right("!#$%&'*+-.^_`|~09azaz", "!~")},
		{"0: 1", right("0", "1")},

		{"", wrong(0)},
		{" ", wrong(0)},
		{"\t", wrong(0)},
		{":", wrong(0)},
		{"::", wrong(0)},
		{": a", wrong(0)},
		{"a", wrong(0)},
		{"Host", wrong(0)},
		{"Host a", wrong(0)},
		{"Host : a", wrong(0)},
		{"Host\t: a", wrong(0)},
		{" Host: a", wrong(0)},
		{"\tHost: a", wrong(0)},
		{" :", wrong(0)},
		{"Ho st: a", wrong(0)},
		{"Ho(st: a", wrong(0)},
		{"\"Host\": a", wrong(0)},
		{"Host\x00: a", wrong(0)},
		{"H\xc3\xb6st: a", wrong(0)},
		{"\u212aeep: a", wrong(0)},
		{"Host\xff: a", wrong(0)},
		{"a/b: c", wrong(0)},
		{"a;b: c", wrong(0)},
		{"a=b", wrong(0)},

		{"a:\x00", wrong(2)},
		{"a:\n", wrong(2)},
		{"a: b\r", wrong(4)},
		{"a: b\nc: d", wrong(4)},
		{"a: b\r\n c", wrong(4)},
		{"a: b\x7f", wrong(4)},
		{"a: \x1f", wrong(3)},
		{"a: :\x08", wrong(4)},
		{"Host: \xff\x0b", wrong(7)},
		{"Host:   \x0c", wrong(8)},
		{"Host: a\x00\x01", wrong(7)},
	} {
		checkParse(t, c.s, c.want)
		if got := resultOf(c.s); got != c.want {
			t.Errorf("the definition gives %s, %+v for %q", show(got.field), got.err, c.s)
		}
	}
}

// P11.1: if several parts are wrong, the error is that of the first one.
func TestParseOrder(t *testing.T) {
	for _, s := range []string{"(: \x00", " a: \x00", "\x00", "a\x00: b", "a\x00b", ": \x00", "a :\x00", "\x00:\x00"} {
		checkParse(t, s, wrong(0))
	}
}

// P11.1, P11.5: all combinations of parts.
func TestParseParts(t *testing.T) {
	names := []string{"", "a", "A", "Host", "HOST", "X-Y_z", "a b", "a ", " a", "\ta", "(", "\x80", "\x00", "~", "9", strings.Repeat("Aa", 5000)}
	spaces := []string{"", " ", "\t", "  ", " \t \t", "\u00a0", "\v"}
	values := []string{"", "a", "A b", "a,\tb", ":", "\x7f", "\x00", "\xff", "\r", "\n", "a\rb", strings.Repeat("a ", 5000) + "a"}
	for _, n := range names {
		for _, colon := range []string{"", ":", " :", "::", "="} {
			for _, a := range spaces {
				for _, v := range values {
					for _, b := range spaces {
						check(t, n+colon+a+v+b)
					}
				}
			}
		}
	}
}

// P11.1, P11.5: all strings of few pieces.
func TestParseShort(t *testing.T) {
	eachString([]string{" ", "\t", ":", "a", "B", "(", "\x80", "\x7f"}, 6, func(s string) {
		check(t, s)
	})
}

// P11.1, P11.5: each byte in each place, with or without the one that was there, and each beginning and end.
func TestParseBytes(t *testing.T) {
	for _, s := range []string{"Host: a.b", "x:", "Content-Length:\t12 ", "a: b : c", "a\x00:b\x00"} {
		for i := range len(s) + 1 {
			check(t, s[:i])
			check(t, s[i:])
			eachByte(func(c string) {
				check(t, s[:i]+c+s[i:])
				check(t, s[:max(i-1, 0)]+c+s[i:])
			})
		}
	}
}

// P11.1, P11.5: all pairs of bytes as a name, and as a value.
func TestParsePairs(t *testing.T) {
	eachByte(func(c string) {
		eachByte(func(d string) {
			check(t, c+d+":v")
			check(t, "N:"+c+d)
		})
	})
}

// P11.1: long parts, with what is wrong at their ends.
func TestParseLong(t *testing.T) {
	long, spaces := strings.Repeat("a", 1<<20), strings.Repeat(" \t", 1<<19)
	for _, c := range []struct {
		s    string
		want result
	}{
		{long + ":" + long, right(long, long)},
		{"a:" + spaces + long + spaces, right("a", long)},
		{"a:" + spaces, right("a", "")},
		{long, wrong(0)},
		{long + "(:" + long, wrong(0)},
		{spaces + ":", wrong(0)},
		{long + ":" + long + "\x7f", wrong(1<<21 + 1)},
		{long + ":" + spaces + "\x00" + long, wrong(1<<21 + 1)},
		{long + ":\n" + long, wrong(1<<20 + 1)},
	} {
		checkParse(t, c.s, c.want)
	}
}

// P11.1, P11.5: random bytes, and field lines in which some bytes are changed.
func TestParseRandom(t *testing.T) {
	random := rand.New(rand.NewSource(11))
	const bytes = "Ab: \t\x00\x7f\x80(\r\n"
	for range 100000 {
		s := []byte("Transfer-Encoding:\t gzip, chunked ")
		for range random.Intn(4) {
			s[random.Intn(len(s))] = bytes[random.Intn(len(bytes))]
		}
		check(t, string(s))
		s = s[:random.Intn(len(s))]
		for i := range s {
			s[i] = byte(random.Intn(256))
		}
		check(t, string(s))
	}
}

// P11.2
func TestText(t *testing.T) {
	for _, c := range []struct{ name, value, want string }{
		{"host", "a", "host: a"},
		{"Host", "A b", "Host: A b"},
		{"", "", ": "},
		{"a", "", "a: "},
		{"", "a", ": a"},
		{"a", " b ", "a:  b "},
		{"a: ", ":", "a: : :"},
		{"a\r\n", "\x00\xff", "a\r\n: \x00\xff"},
		{"%s", "%d\x80", "%s: %d\x80"},
		{" ", "\t", " : \t"},
	} {
		if got := field.Text(api.Field{Name: c.name, Value: c.value}); got != c.want {
			t.Errorf("Text(%q, %q) = %q, want %q", c.name, c.value, got, c.want)
		}
	}
	eachByte(func(c string) {
		if got := field.Text(api.Field{Name: c, Value: c}); got != c+": "+c {
			t.Errorf("Text of %q = %q", c, got)
		}
	})
}

// checkName checks Values and One for a name against the values that fields with this name have.
func checkName(t *testing.T, l []api.Field, name string, want ...string) {
	t.Helper()
	if got := field.Values(l, name); !slices.Equal(got, want) {
		t.Fatalf("Values(%q, %q) = %q, want %q", l, name, got, want)
	}
	value, ok, err := field.One(l, name)
	switch len(want) {
	case 0:
		if value != "" || ok || err != nil {
			t.Fatalf("One(%q, %q) = %q, %t, %v, want none", l, name, value, ok, err)
		}
	case 1:
		if value != want[0] || !ok || err != nil {
			t.Fatalf("One(%q, %q) = %q, %t, %v, want %q", l, name, value, ok, err, want[0])
		}
	default:
		if value != "" || ok || err != error(api.BadRequest) {
			t.Fatalf("One(%q, %q) = %q, %t, %#v, want status 400", l, name, value, ok, err)
		}
	}
}

// P11.3: the results are written out.
func TestValues(t *testing.T) {
	l := list("host", "a", "Accept", "b", "HOST", "c", "accept", "", "x", "d", "hOST", "a", "y", "", "", "e", "X\x80", "f")
	checkName(t, l, "host", "a", "c", "a")
	checkName(t, l, "Host", "a", "c", "a")
	checkName(t, l, "HOST", "a", "c", "a")
	checkName(t, l, "accept", "b", "")
	checkName(t, l, "ACCEPT", "b", "")
	checkName(t, l, "x", "d")
	checkName(t, l, "X", "d")
	checkName(t, l, "y", "")
	checkName(t, l, "Y", "")
	checkName(t, l, "", "e")
	checkName(t, l, "x\x80", "f")
	for _, name := range []string{"z", "hos", "hostt", "host ", " host", "host:", "h", "a", "b", "\x00", "x\x81", "\x80"} {
		checkName(t, l, name)
	}
	for _, name := range []string{"", "host"} {
		checkName(t, nil, name)
		checkName(t, []api.Field{}, name)
	}
	checkName(t, list("", ""), "", "")
	checkName(t, list("", "", "", ""), "", "", "")
	checkName(t, list("a", " V "), "A", " V ")
	checkName(t, list("A", "", "a", ""), "a", "", "")
}

// P11.3: only the case of letters does not matter. Some characters fold to letters in Unicode, and some bytes differ by 32 like letters do.
func TestNamesAreBytes(t *testing.T) {
	eachByte(func(c string) {
		eachByte(func(d string) {
			l := list("n"+c, "v")
			if lower(c) == lower(d) {
				checkName(t, l, "N"+d, "v")
			} else {
				checkName(t, l, "N"+d)
			}
		})
	})
	for _, pair := range [][2]string{{"k", "\u212a"}, {"s", "\u017f"}, {"\u00e9", "\u00c9"}, {"i", "\u0130"}, {"\x80", "\u0080"}, {"\xff", "\ufffd"}, {"\xfe", "\xff"}} {
		checkName(t, list(pair[0], "v"), pair[1])
		checkName(t, list(pair[1], "v"), pair[0])
	}
}

// P11.3: all lists of up to five fields with few names, against the definition.
func TestValuesOfAllLists(t *testing.T) {
	names := []string{"a", "A", "b", ""}
	var extend func(l []api.Field, n int)
	extend = func(l []api.Field, n int) {
		for _, name := range []string{"a", "A", "b", "B", "", "c"} {
			var want []string
			for _, f := range l {
				if lower(f.Name) == lower(name) {
					want = append(want, f.Value)
				}
			}
			checkName(t, l, name, want...)
		}
		if n == 0 {
			return
		}
		for _, name := range names {
			extend(append(slices.Clone(l), api.Field{Name: name, Value: fmt.Sprint(n)}), n-1)
		}
	}
	extend(nil, 5)
}

// P11.3: one value among many fields, and many values.
func TestValuesOfLongLists(t *testing.T) {
	const size = 100000
	var l []api.Field
	var values []string
	for i := range size {
		l = append(l, api.Field{Name: "Many", Value: fmt.Sprint(i)})
		values = append(values, fmt.Sprint(i))
	}
	checkName(t, l, "mANY", values...)
	checkName(t, l, "one")
	for _, i := range []int{0, size / 2, size - 1} {
		with := slices.Clone(l)
		with[i] = api.Field{Name: "One", Value: "v"}
		checkName(t, with, "one", "v")
	}
}

// checkAll checks All against its result.
func checkAll(t *testing.T, lines []string, most int, want []api.Field, wantErr api.Fault) {
	t.Helper()
	got, err := field.All(lines, most)
	if f := faultOf(t, err); f != wantErr {
		t.Fatalf("All(%.80q, %d): error %+v, want %+v", lines, most, f, wantErr)
	}
	if !slices.Equal(got, want) {
		t.Fatalf("All(%.80q, %d) = %q, want %q", lines, most, got, want)
	}
}

// P11.4: the results are written out.
func TestAll(t *testing.T) {
	good, bad := api.Fault{}, func(at int) api.Fault { return api.Fault{Status: 400, At: at} }
	many := func(at int) api.Fault { return api.Fault{Status: 431, At: at} }
	for _, c := range []struct {
		lines []string
		most  int
		want  []api.Field
		err   api.Fault
	}{
		{nil, 0, nil, good},
		{nil, 5, nil, good},
		{nil, -1, nil, good},
		{nil, math.MinInt, nil, good},
		{[]string{}, 0, nil, good},
		{[]string{"Host: a"}, 1, list("host", "a"), good},
		{[]string{"Host: a", "B:c"}, 2, list("host", "a", "b", "c"), good},
		{[]string{"b: 1", "a: 2", "B: 3", "b: 1"}, 4, list("b", "1", "a", "2", "b", "3", "b", "1"), good},
		{[]string{"b: 1", "a: 2"}, math.MaxInt, list("b", "1", "a", "2"), good},
		{[]string{"a:", "b: "}, 3, list("a", "", "b", ""), good},

		{[]string{"a: b"}, 0, nil, many(0)},
		{[]string{"a: b"}, -1, nil, many(0)},
		{[]string{"a: b"}, math.MinInt, nil, many(0)},
		{[]string{"a: b", "c: d"}, 1, nil, many(1)},
		{[]string{"a: b", "c: d", "e: f", "g: h"}, 3, nil, many(3)},
		{[]string{"a: b", "c: d", "e: f", "g: h"}, 1, nil, many(1)},
		{[]string{"a: b", "c: d", "e: f", "g: h"}, -2, nil, many(0)},

		{[]string{""}, 1, nil, bad(0)},
		{[]string{"abc: \x00"}, 1, nil, bad(0)},
		{[]string{"a: b", "abc: d\x00"}, 2, nil, bad(1)},
		{[]string{"a: b", "c: d", " e"}, 3, nil, bad(2)},
		{[]string{"a: b", "c : d", "e: \x7f"}, 9, nil, bad(1)},
		{[]string{"a: b", "c:\r", "e"}, 9, nil, bad(1)},
		{[]string{"a", "b", "c"}, 3, nil, bad(0)},

		{[]string{"", "", ""}, 2, nil, many(2)},
		{[]string{""}, 0, nil, many(0)},
		{[]string{"a: b", ""}, 1, nil, many(1)},
		{[]string{" ", "a: b"}, -7, nil, many(0)},
	} {
		checkAll(t, c.lines, c.most, c.want, c.err)
	}
}

// P11.4: all lists of up to six lines with all limits around their lengths, against the definition.
func TestAllOfAllLists(t *testing.T) {
	pieces := []string{"A: b", "c:", "e", "f: g\x00"}
	var extend func(lines []string, n int)
	extend = func(lines []string, n int) {
		for most := -2; most <= len(lines)+2; most++ {
			checkAllOf(t, lines, most)
		}
		if n == 0 {
			return
		}
		for _, piece := range pieces {
			extend(append(slices.Clone(lines), piece), n-1)
		}
	}
	extend(nil, 6)
}

// checkAllOf checks All against the definition.
func checkAllOf(t *testing.T, lines []string, most int) {
	t.Helper()
	if len(lines) > max(most, 0) {
		checkAll(t, lines, most, nil, api.Fault{Status: 431, At: max(most, 0)})
		return
	}
	var want []api.Field
	for i, line := range lines {
		r := resultOf(line)
		if r.err.Status != 0 {
			checkAll(t, lines, most, nil, api.Fault{Status: r.err.Status, At: i})
			return
		}
		want = append(want, r.field)
	}
	checkAll(t, lines, most, want, api.Fault{})
}

// P11.4: many lines, with what is wrong at their end.
func TestAllOfManyLines(t *testing.T) {
	const size = 100000
	var lines []string
	for i := range size {
		lines = append(lines, fmt.Sprintf("Name-%d: %d", i, i))
	}
	checkAllOf(t, lines, size)
	checkAllOf(t, lines, size-1)
	lines[size-1] = "wrong"
	checkAllOf(t, lines, size)
}

// Arguments stay as they are, also behind the ends of slices.
func TestArgumentsStay(t *testing.T) {
	fields := list("Host", "A", "b", " c ", "HOST", "d", "behind", "e")
	lines := []string{"Host: a", "B:\tc ", "wrong", "behind"}
	oldFields, oldLines := slices.Clone(fields), slices.Clone(lines)
	for n := range len(fields) {
		field.Values(fields[:n], "host")
		field.One(fields[:n], "host")
		field.One(fields[:n], "b")
	}
	for n := range len(lines) {
		field.All(lines[:n], 9)
	}
	if !slices.Equal(fields, oldFields) || !slices.Equal(lines, oldLines) {
		t.Errorf("%q, %q", fields, lines)
	}
}

// Results share no memory with arguments and each other.
func TestResultsShareNothing(t *testing.T) {
	fields := list("a", "1", "A", "2")
	values := field.Values(fields, "a")
	fields[0].Value = "changed"
	if !slices.Equal(values, []string{"1", "2"}) {
		t.Errorf("%q", values)
	}
	lines := []string{"a: 1", "b: 2"}
	first, _ := field.All(lines, 2)
	second, _ := field.All(lines, 2)
	lines[0] = "changed"
	first[1].Value = "changed"
	_ = append(first[:cap(first)], api.Field{})
	if want := list("a", "1", "b", "2"); !slices.Equal(second, want) {
		t.Errorf("%q, want %q", second, want)
	}
}

// The functions may be called concurrently.
func TestConcurrent(t *testing.T) {
	var group sync.WaitGroup
	for range 8 {
		group.Go(func() {
			for range 100 {
				l, err := field.All([]string{"Host: a", "B: c", "b: d"}, 3)
				if err != nil || !slices.Equal(field.Values(l, "B"), []string{"c", "d"}) {
					t.Error(l, err)
				}
				value, ok, err := field.One(l, "HOST")
				if value != "a" || !ok || err != nil {
					t.Error(value, ok, err)
				}
				if _, ok, err := field.One(l, "b"); ok || err != error(api.BadRequest) {
					t.Error(ok, err)
				}
			}
		})
	}
	group.Wait()
}
