package reqline_test

import (
	"fmt"
	"math"
	"math/rand"
	"regexp"
	"slices"
	"strings"
	"sync"
	"testing"

	"doorkeeper/api"
	"doorkeeper/reqline"
)

// The parts of request lines.
var (
	token   = regexp.MustCompile("\\A[A-Za-z0-9!#$%&'*+.^_`|~-]+\\z")
	target  = regexp.MustCompile(`\A[\x21-\x7e]+\z`)
	version = regexp.MustCompile(`\AHTTP/[0-9]\.[0-9]\z`)
)

// ordered are the methods with a kind, in the order of the chapter.
var ordered = []struct {
	name string
	kind int
}{
	{"GET", 1}, {"HEAD", 2}, {"OPTIONS", 3},
	{"POST", 4}, {"PUT", 4}, {"DELETE", 4}, {"PATCH", 4}, {"TRACE", 4}, {"CONNECT", 4},
}

// result is what Parse returns, without its error if this is nil.
type result struct {
	line reqline.Line
	err  api.Fault
}

func wrong(status api.Status, at int) result {
	return result{err: api.Fault{Status: status, At: at}}
}

func right(method, target string, minor int) result {
	return result{line: reqline.Line{Method: method, Target: target, Minor: minor}}
}

// show returns the beginnings of the parts of a line.
func show(l reqline.Line) string {
	return fmt.Sprintf("{%.80q %.80q %d}", l.Method, l.Target, l.Minor)
}

// resultOf returns the result of Parse by the definition.
func resultOf(s string) result {
	if strings.Count(s, " ") != 2 || !token.MatchString(s[:strings.Index(s, " ")]) {
		return wrong(400, 0)
	}
	first, second := strings.Index(s, " "), strings.LastIndex(s, " ")
	switch last := s[second+1:]; {
	case !target.MatchString(s[first+1 : second]):
		return wrong(400, first+1)
	case !version.MatchString(last):
		return wrong(400, second+1)
	case last == "HTTP/1.0":
		return right(s[:first], s[first+1:second], 0)
	case last == "HTTP/1.1":
		return right(s[:first], s[first+1:second], 1)
	}
	return wrong(505, second+1)
}

// checkParse checks Parse against a result, and Text against the string if this is a request line.
func checkParse(t *testing.T, s string, want result) {
	t.Helper()
	line, err := reqline.Parse(s)
	got := result{line: line}
	if err != nil {
		fault, ok := err.(api.Fault)
		if !ok {
			t.Fatalf("Parse(%.80q): the error is a %T", s, err)
		}
		got.err = fault
	}
	if got != want {
		t.Fatalf("Parse(%.80q) = %s, %+v, want %s, %+v", s, show(got.line), got.err, show(want.line), want.err)
	}
	if (err == nil) != (want.err == api.Fault{}) {
		t.Fatalf("Parse(%.80q): error %v", s, err)
	}
	if err == nil && reqline.Text(line) != s {
		t.Fatalf("Text(%s) = %.80q, want %.80q", show(line), reqline.Text(line), s)
	}
}

// check checks Parse against the definition.
func check(t *testing.T, s string) {
	t.Helper()
	checkParse(t, s, resultOf(s))
}

// eachByte calls a function for all bytes.
func eachByte(call func(c string)) {
	for n := range 256 {
		call(string([]byte{byte(n)}))
	}
}

// eachString calls a function for all strings of up to n pieces of a list.
func eachString(pieces []string, n int, call func(s string)) {
	call("")
	if n == 0 {
		return
	}
	for _, piece := range pieces {
		eachString(pieces, n-1, func(s string) {
			call(piece + s)
		})
	}
}

func TestKinds(t *testing.T) {
	got := []int{reqline.None, reqline.Get, reqline.Head, reqline.Options, reqline.Other}
	if !slices.Equal(got, []int{0, 1, 2, 3, 4}) {
		t.Errorf("%v", got)
	}
}

// P10.1: the results are written out.
func TestParse(t *testing.T) {
	for _, c := range []struct {
		s    string
		want result
	}{
		{"GET /a HTTP/1.1", right("GET", "/a", 1)},
		{"GET /a HTTP/1.0", right("GET", "/a", 0)},
		{"OPTIONS * HTTP/1.1", right("OPTIONS", "*", 1)},
		{"HEAD http://h/a?b#c HTTP/1.1", right("HEAD", "http://h/a?b#c", 1)},
		{"CONNECT h:80 HTTP/1.1", right("CONNECT", "h:80", 1)},
		{"get / HTTP/1.1", right("get", "/", 1)},
		{"!#$%&'*+-.^_`|~09azAZ !~ HTTP/1.0", right("!#$%&'*+-.^_`|~09azAZ", "!~", 0)},
		{"HTTP/1.1 / HTTP/1.1", wrong(400, 0)},
		{"HTTP HTTP/1.1 HTTP/1.1", right("HTTP", "HTTP/1.1", 1)},

		{"", wrong(400, 0)},
		{" ", wrong(400, 0)},
		{"  ", wrong(400, 0)},
		{"   ", wrong(400, 0)},
		{"GET", wrong(400, 0)},
		{"GET /a", wrong(400, 0)},
		{"GET HTTP/1.1", wrong(400, 0)},
		{"GET /aHTTP/1.1", wrong(400, 0)},
		{"GET  /a HTTP/1.1", wrong(400, 0)},
		{"GET /a  HTTP/1.1", wrong(400, 0)},
		{" GET /a HTTP/1.1", wrong(400, 0)},
		{"GET /a HTTP/1.1 ", wrong(400, 0)},
		{"GET /a b HTTP/1.1", wrong(400, 0)},
		{"GET /a HTTP/1.1 HTTP/1.1", wrong(400, 0)},
		{"GET\t/a\tHTTP/1.1", wrong(400, 0)},
		{" /a HTTP/1.1", wrong(400, 0)},
		{"G(T /a HTTP/1.1", wrong(400, 0)},
		{"G\xc9T /a HTTP/1.1", wrong(400, 0)},
		{"GET: /a HTTP/1.1", wrong(400, 0)},

		{"GET  HTTP/1.1", wrong(400, 4)},
		{"G  HTTP/1.1", wrong(400, 2)},
		{"OPTIONS \t HTTP/1.1", wrong(400, 8)},
		{"GET /a\tb HTTP/1.1", wrong(400, 4)},
		{"GET /a\x7f HTTP/1.1", wrong(400, 4)},
		{"GET /\xc3\xa9 HTTP/1.1", wrong(400, 4)},
		{"GET /a\x00 HTTP/1.1", wrong(400, 4)},

		{"GET /a ", wrong(400, 7)},
		{"GET /abc ", wrong(400, 9)},
		{"GET /a http/1.1", wrong(400, 7)},
		{"GET /a HTTP/1.", wrong(400, 7)},
		{"GET /a HTTP/1", wrong(400, 7)},
		{"GET /a HTTP/", wrong(400, 7)},
		{"GET /a HTTP/1.1\r", wrong(400, 7)},
		{"GET /a HTTP/1.1\n", wrong(400, 7)},
		{"GET /a HTTP/1.10", wrong(400, 7)},
		{"GET /a HTTP/11.1", wrong(400, 7)},
		{"GET /a HTTP/01.1", wrong(400, 7)},
		{"GET /a HTTP/1,1", wrong(400, 7)},
		{"GET /a HTTP 1.1", wrong(400, 0)},
		{"GET /a XHTTP/1.1", wrong(400, 7)},
		{"GET /a 1.1", wrong(400, 7)},
		{"GET /a HTTP/a.1", wrong(400, 7)},
		{"GET /a HTTP/1.a", wrong(400, 7)},

		{"GET /a HTTP/2.0", wrong(505, 7)},
		{"GET /a HTTP/1.2", wrong(505, 7)},
		{"GET /a HTTP/0.9", wrong(505, 7)},
		{"GET /a HTTP/0.1", wrong(505, 7)},
		{"GET /a HTTP/2.1", wrong(505, 7)},
		{"FOO /abc HTTP/9.9", wrong(505, 9)},
	} {
		checkParse(t, c.s, c.want)
		if got := resultOf(c.s); got != c.want {
			t.Errorf("the definition gives %s, %+v for %q", show(got.line), got.err, c.s)
		}
	}
}

// P10.1: if several parts are wrong, the error is that of the first one.
func TestParseOrder(t *testing.T) {
	for _, c := range []struct {
		s    string
		want result
	}{
		{"( \x7f x", wrong(400, 0)},
		{"(  HTTP/2.0", wrong(400, 0)},
		{"GET  HTTP/2.0", wrong(400, 4)},
		{"GET  x", wrong(400, 4)},
		{"GET \x7f HTTP/2.0", wrong(400, 4)},
		{"GET \x7f ", wrong(400, 4)},
		{"GET / HTTP/2.x", wrong(400, 6)},
		{"GET \x7f HTTP/2.0 ", wrong(400, 0)},
		{"GET HTTP/2.0", wrong(400, 0)},
	} {
		checkParse(t, c.s, c.want)
	}
}

// P10.1, P10.4: all combinations of parts and separators.
func TestParseParts(t *testing.T) {
	methods := []string{"", "G", "GET", "get", "DELETE", "G\tT", "(", "G:", "\x80", "\x00", "~"}
	targets := []string{"", "/", "/a", "*", "!", "~", "a\tb", "\x7f", "/\x80", "/\x00/", "HTTP/1.1", strings.Repeat("/a", 5000)}
	versions := []string{"", "HTTP/1.1", "HTTP/1.0", "HTTP/1.2", "HTTP/2.0", "HTTP/0.1", "http/1.1", "Http/1.1", "HTTP/1.1\r", "HTTP/11", "HTTP/.1", "HTTP/1.", "HTTP/1.\xb1", "HTTP/:.1", "HTTP//.0"}
	spaces := []string{" ", "", "  ", "\t", "\xa0"}
	for _, m := range methods {
		for _, x := range targets {
			for _, v := range versions {
				for _, a := range spaces {
					for _, b := range spaces {
						check(t, m+a+x+b+v)
					}
				}
			}
		}
	}
}

// P10.1, P10.4: all strings of few pieces.
func TestParseShort(t *testing.T) {
	eachString([]string{" ", "G", "(", "\x7f", "HTTP/", "1", ".", "HTTP/1.1"}, 6, func(s string) {
		check(t, s)
	})
}

// P10.1, P10.4: each byte in each place, with or without the one that was there, and each beginning and end.
func TestParseBytes(t *testing.T) {
	for _, s := range []string{"GET /a HTTP/1.1", "OPTIONS * HTTP/1.0", "x y HTTP/3.7"} {
		for i := range len(s) + 1 {
			check(t, s[:i])
			check(t, s[i:])
			eachByte(func(c string) {
				check(t, s[:i]+c+s[i:])
				check(t, s[:max(i-1, 0)]+c+s[i:])
			})
		}
	}
}

// P10.1: all versions of two bytes around the dot, and all dots.
func TestParseVersions(t *testing.T) {
	eachByte(func(c string) {
		eachByte(func(d string) {
			check(t, "GET /a HTTP/"+c+"."+d)
		})
		check(t, "GET /a HTTP/1"+c+"1")
	})
}

// P10.1: long parts, with what is wrong at their ends.
func TestParseLong(t *testing.T) {
	long := strings.Repeat("a", 1<<20)
	for _, c := range []struct {
		s    string
		want result
	}{
		{long + " " + long + " HTTP/1.1", right(long, long, 1)},
		{long + "( " + long + " HTTP/1.1", wrong(400, 0)},
		{long + " " + long + "\x7f HTTP/1.1", wrong(400, 1<<20+1)},
		{long + " " + long + " HTTP/1.1" + long, wrong(400, 1<<21+2)},
		{long + " " + long + " HTTP/3.0", wrong(505, 1<<21+2)},
		{strings.Repeat(" ", 1<<20), wrong(400, 0)},
		{"GET /a HTTP/1.1" + strings.Repeat(" ", 1<<20), wrong(400, 0)},
	} {
		checkParse(t, c.s, c.want)
	}
}

// P10.1, P10.4: random bytes, and request lines in which some bytes are changed.
func TestParseRandom(t *testing.T) {
	random := rand.New(rand.NewSource(10))
	const bytes = "GET /aHTTP/1.0 \x00\x7f\x80("
	for range 100000 {
		s := []byte("PATCH /a/b?c HTTP/1.1")
		for range random.Intn(4) {
			s[random.Intn(len(s))] = bytes[random.Intn(len(bytes))]
		}
		check(t, string(s))
		s = s[:random.Intn(len(s))]
		for i := range s {
			s[i] = byte(random.Intn(256))
		}
		check(t, string(s))
	}
}

// P10.2
func TestText(t *testing.T) {
	for _, c := range []struct {
		line reqline.Line
		want string
	}{
		{reqline.Line{Method: "GET", Target: "/a", Minor: 1}, "GET /a HTTP/1.1"},
		{reqline.Line{Method: "GET", Target: "/a", Minor: 0}, "GET /a HTTP/1.0"},
		{reqline.Line{Method: "GET", Target: "/a", Minor: 2}, "GET /a HTTP/1.1"},
		{reqline.Line{Method: "GET", Target: "/a", Minor: 10}, "GET /a HTTP/1.1"},
		{reqline.Line{Method: "GET", Target: "/a", Minor: -1}, "GET /a HTTP/1.1"},
		{reqline.Line{Method: "GET", Target: "/a", Minor: math.MaxInt}, "GET /a HTTP/1.1"},
		{reqline.Line{Method: "GET", Target: "/a", Minor: math.MinInt}, "GET /a HTTP/1.1"},
		{reqline.Line{Method: "GET", Target: "/a", Minor: 1 << 32}, "GET /a HTTP/1.1"},
		{reqline.Line{}, "  HTTP/1.0"},
		{reqline.Line{Minor: 1}, "  HTTP/1.1"},
		{reqline.Line{Method: "a b", Target: "c d", Minor: 1}, "a b c d HTTP/1.1"},
		{reqline.Line{Method: " ", Target: "\r\n"}, "  \r\n HTTP/1.0"},
		{reqline.Line{Method: "\xff\x00", Target: "%s\x80", Minor: 1}, "\xff\x00 %s\x80 HTTP/1.1"},
	} {
		if got := reqline.Text(c.line); got != c.want {
			t.Errorf("Text(%s) = %q, want %q", show(c.line), got, c.want)
		}
	}
	for minor := -300; minor <= 300; minor++ {
		want := "a b HTTP/1.1"
		if minor == 0 {
			want = "a b HTTP/1.0"
		}
		if got := reqline.Text(reqline.Line{Method: "a", Target: "b", Minor: minor}); got != want {
			t.Errorf("Minor %d: %q", minor, got)
		}
	}
}

// P10.4: Parse gives back each line whose parts are right, with each byte that they may have.
func TestParseInvertsText(t *testing.T) {
	inverts := func(l reqline.Line) {
		got, err := reqline.Parse(reqline.Text(l))
		if got != l || err != nil {
			t.Errorf("%s: %s, %v", show(l), show(got), err)
		}
	}
	eachByte(func(c string) {
		for minor := range 2 {
			if token.MatchString(c) {
				inverts(reqline.Line{Method: c, Target: "/", Minor: minor})
				inverts(reqline.Line{Method: "a" + c + "b", Target: "/", Minor: minor})
			}
			if target.MatchString(c) {
				inverts(reqline.Line{Method: "GET", Target: c, Minor: minor})
				inverts(reqline.Line{Method: "GET", Target: "a" + c + "b", Minor: minor})
			}
		}
	})
	for _, m := range ordered {
		inverts(reqline.Line{Method: m.name, Target: "/a/%20?b", Minor: 1})
	}
}

// kindOf returns the kind of a method by the definition.
func kindOf(method string) int {
	for _, m := range ordered {
		if m.name == method {
			return m.kind
		}
	}
	return 0
}

// P10.3
func TestKind(t *testing.T) {
	checkKind := func(method string) {
		t.Helper()
		if got, want := reqline.Kind(method), kindOf(method); got != want {
			t.Errorf("Kind(%q) = %d, want %d", method, got, want)
		}
	}
	for _, s := range []string{"", " ", "G", "GETS", "HEADER", "OPTION", "LINK", "None", "Other", "GET ", " GET", "GET\x00", "GETHEAD", "PROPFIND"} {
		checkKind(s)
	}
	for _, m := range ordered {
		s := m.name
		checkKind(s)
		checkKind(strings.ToLower(s))
		checkKind(s[:1] + strings.ToLower(s[1:]))
		for i := range len(s) {
			checkKind(s[:i] + s[i+1:])
			checkKind(s[:i])
			eachByte(func(c string) {
				checkKind(s[:i] + c + s[i:])
				checkKind(s[:i] + c + s[i+1:])
				checkKind(s + c)
			})
		}
	}
}

// P10.3
func TestMethods(t *testing.T) {
	want := map[int][]string{
		1: {"GET"},
		2: {"HEAD"},
		3: {"OPTIONS"},
		4: {"POST", "PUT", "DELETE", "PATCH", "TRACE", "CONNECT"},
	}
	checkMethods := func(kind int) {
		t.Helper()
		if got := reqline.Methods(kind); !slices.Equal(got, want[kind]) {
			t.Errorf("Methods(%d) = %q, want %q", kind, got, want[kind])
		}
	}
	for kind := -300; kind <= 300; kind++ {
		checkMethods(kind)
	}
	for _, kind := range []int{math.MinInt, math.MaxInt, 1 << 32, 1<<32 + 1} {
		checkMethods(kind)
	}
	for range 100 {
		checkMethods(reqline.Other)
	}
}

// Results of Methods share no memory.
func TestMethodsShareNothing(t *testing.T) {
	for kind := range 5 {
		first, second := reqline.Methods(kind), reqline.Methods(kind)
		want := slices.Clone(second)
		for i := range first {
			first[i] = "changed"
		}
		_ = append(first[:cap(first)], "more")
		if third := reqline.Methods(kind); !slices.Equal(second, want) || !slices.Equal(third, want) {
			t.Errorf("%d: %q, %q, want %q", kind, second, third, want)
		}
	}
}

// The functions may be called concurrently.
func TestConcurrent(t *testing.T) {
	var group sync.WaitGroup
	for range 8 {
		group.Go(func() {
			for range 100 {
				line, err := reqline.Parse("GET /a HTTP/1.1")
				if err != nil || reqline.Text(line) != "GET /a HTTP/1.1" || reqline.Kind(line.Method) != reqline.Get || len(reqline.Methods(reqline.Other)) != 6 {
					t.Error(line, err)
				}
			}
		})
	}
	group.Wait()
}
