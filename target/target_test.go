package target_test

import (
	"errors"
	"fmt"
	"math/rand"
	"regexp"
	"slices"
	"strings"
	"sync"
	"testing"

	"doorkeeper/api"
	"doorkeeper/fault"
	"doorkeeper/segs"
	"doorkeeper/target"
)

// The parts of target texts. Bytes that are not UTF-8 match a negated class, too.
var (
	absolute = regexp.MustCompile(`\A[Hh][Tt][Tt][Pp]://([^/?]+)([^?]*)`)
	query    = regexp.MustCompile(`\A(?:[/?A-Za-z0-9._~!$&'()*+,;=:@-]|%[0-9A-Fa-f][0-9A-Fa-f])*`)
)

// none is the offset of an error that has none.
const none = -1

// result is what Parse returns: the target, or the part that is wrong and the offset in it.
type result struct {
	t    target.Target
	part string
	at   int
}

// dir returns the path of a directory.
func dir(list ...string) segs.Path { return segs.Path{Segs: list, Dir: true} }

// file returns a path that is not one of a directory.
func file(list ...string) segs.Path { return segs.Path{Segs: list} }

// origin returns a target of the form Origin. A query is one text, or none.
func origin(p segs.Path, query ...string) target.Target {
	return target.Target{Kind: 1, Path: p, Query: strings.Join(query, ""), HasQuery: len(query) > 0}
}

// at returns a target of the form Absolute.
func at(host string, p segs.Path, query ...string) target.Target {
	t := origin(p, query...)
	t.Kind, t.Host = 2, host
	return t
}

// show returns a text that shows a target.
func show(t target.Target) string {
	return fmt.Sprintf("{%d %.200q %.200q %t %.200q %t}", t.Kind, t.Host, t.Path.Segs, t.Path.Dir, t.Query, t.HasQuery)
}

// same reports whether two targets have the same fields.
func same(a, b target.Target) bool {
	paths := slices.Equal(a.Path.Segs, b.Path.Segs) && a.Path.Dir == b.Path.Dir
	a.Path, b.Path = segs.Path{}, segs.Path{}
	return paths && fmt.Sprintf("%#v", a) == fmt.Sprintf("%#v", b)
}

// parseOf returns what Parse returns by the definition.
func parseOf(s string) result {
	var t target.Target
	rest := s
	found := absolute.FindStringSubmatch(s)
	switch {
	case s == "*":
		return result{t: target.Target{Kind: 3}}
	case s != "" && s[0] == '/':
		t.Kind = 1
	case found != nil:
		t.Kind, t.Host = 2, found[1]
		rest = s[len("http://")+len(t.Host):]
		if found[2] == "" {
			rest = "/" + rest
		}
	default:
		return result{part: "form", at: none}
	}
	path := rest
	if i := strings.IndexByte(rest, '?'); i >= 0 {
		path, t.Query, t.HasQuery = rest[:i], rest[i+1:], true
	}
	p, err := segs.Parse(path)
	if at, ok := fault.At(err); ok {
		return result{part: "path", at: at}
	}
	if n := len(query.FindString(t.Query)); n < len(t.Query) {
		return result{part: "query", at: n}
	}
	t.Path = p
	return result{t: t}
}

// checkParse checks Parse.
func checkParse(t *testing.T, s string, want result) {
	t.Helper()
	got, err := target.Parse(s)
	if !same(got, want.t) {
		t.Fatalf("Parse(%.200q) = %s, %v, want %s", s, show(got), err, show(want.t))
	}
	if want.part == "" {
		if err != nil {
			t.Fatalf("Parse(%.200q): error %v", s, err)
		}
		return
	}
	if err == nil || err.Error() != want.part+": status 400" {
		t.Fatalf("Parse(%.200q): error %v, want one of %s", s, err, want.part)
	}
	inner := error(api.Fault{Status: 400, At: want.at})
	if want.at == none {
		inner = api.BadRequest
	}
	if got := errors.Unwrap(err); got == nil || got != inner {
		t.Fatalf("Parse(%.200q): error %#v in %s, want %#v", s, got, want.part, inner)
	}
	if !errors.Is(err, api.BadRequest) {
		t.Fatalf("Parse(%.200q): errors.Is does not find 400", s)
	}
}

// checkLocation checks what P17.4 says of the location of a target that was parsed.
func checkLocation(t *testing.T, s string, parsed target.Target) {
	t.Helper()
	text := target.Location(parsed)
	again, err := target.Parse(text)
	want := origin(dir(parsed.Path.Segs...))
	want.Query, want.HasQuery = parsed.Query, parsed.HasQuery
	if !same(again, want) || err != nil {
		t.Fatalf("%.200q: the location %.200q is that of %s, %v, want %s", s, text, show(again), err, show(want))
	}
	if strings.ContainsAny(text, "\r\n\x00") {
		t.Fatalf("%.200q: the location %.200q", s, text)
	}
}

// check checks Parse against the definition, and P17.4 for the target.
func check(t *testing.T, s string) {
	t.Helper()
	want := parseOf(s)
	checkParse(t, s, want)
	if want.part == "" {
		checkLocation(t, s, want.t)
	}
}

// eachList calls a function for all lists of up to n of some pieces.
func eachList(pieces []string, n int, call func(list []string)) {
	var list []string
	var extend func()
	extend = func() {
		call(slices.Clone(list))
		if len(list) == n {
			return
		}
		for _, p := range pieces {
			list = append(list, p)
			extend()
			list = list[:len(list)-1]
		}
	}
	extend()
}

// eachByte calls a function for each byte.
func eachByte(call func(c string)) {
	for n := range 256 {
		call(string([]byte{byte(n)}))
	}
}

func TestKinds(t *testing.T) {
	if target.Origin != 1 || target.Absolute != 2 || target.Asterisk != 3 {
		t.Error(target.Origin, target.Absolute, target.Asterisk)
	}
}

// P17.1: the results are written out.
func TestParse(t *testing.T) {
	for _, c := range []struct {
		s    string
		want target.Target
	}{
		{"/a/b?x=1", origin(file("a", "b"), "x=1")},
		{"/", origin(dir())},
		{"/?", origin(dir(), "")},
		{"/a", origin(file("a"))},
		{"/a/", origin(dir("a"))},
		{"/a?", origin(file("a"), "")},
		{"/a/?b", origin(dir("a"), "b")},
		{"/a/../b%20c", origin(file("b c"))},
		{"/a/./b%20c/../d/?q", origin(dir("a", "d"), "q")},
		{"/..a?..", origin(file("..a"), "..")},
		{"//h/a", origin(file("", "h", "a"))},
		{"/*", origin(file("*"))},
		{"/http://h/a", origin(file("http:", "", "h", "a"))},
		{"/a%3Fb", origin(file("a?b"))},
		{"/a%3fb?c", origin(file("a?b"), "c")},
		{"/a??", origin(file("a"), "?")},
		{"/a?b?c", origin(file("a"), "b?c")},
		{"/a?/../..", origin(file("a"), "/../..")},
		{"/a?/b//", origin(file("a"), "/b//")},
		{"/?%2f%5C%00%0d%0A", origin(dir(), "%2f%5C%00%0d%0A")},
		{"/?%61%25+%2e%2E", origin(dir(), "%61%25+%2e%2E")},
		{"/?-._~!$&'()*+,;=:@/?", origin(dir(), "-._~!$&'()*+,;=:@/?")},
		{"/?http://h", origin(dir(), "http://h")},

		{"http://h", at("h", dir())},
		{"http://h/", at("h", dir())},
		{"http://h?", at("h", dir(), "")},
		{"http://h?x", at("h", dir(), "x")},
		{"http://h?/a", at("h", dir(), "/a")},
		{"http://h/?", at("h", dir(), "")},
		{"http://h/a", at("h", file("a"))},
		{"http://h/a/../b/?x=%2F", at("h", dir("b"), "x=%2F")},
		{"http://h//", at("h", dir(""))},
		{"http://h//a", at("h", file("", "a"))},
		{"http://h??", at("h", dir(), "?")},
		{"HTTP://h:80", at("h:80", dir())},
		{"hTtP://Host.Example:080/A?B", at("Host.Example:080", file("A"), "B")},
		{"http://[::1]:8080/a", at("[::1]:8080", file("a"))},
		{"http://user:pw@h/a", at("user:pw@h", file("a"))},
		{"http://*", at("*", dir())},
		{"http://:", at(":", dir())},
		{"http://..", at("..", dir())},
		{"http://h#a", at("h#a", dir())},
		{"http://h\\a/b", at("h\\a", file("b"))},
		{"http://%2f%/a", at("%2f%", file("a"))},
		{"http:// \x00\r\n\xff\u00e9?", at(" \x00\r\n\xff\u00e9", dir(), "")},
		{"http://http:/", at("http:", dir())},
		{"http://http://h", at("http:", file("", "h"))},

		{"*", target.Target{Kind: 3}},
	} {
		if got := parseOf(c.s); !same(got.t, c.want) || got.part != "" {
			t.Errorf("the definition gives %s, %q for %q, want %s", show(got.t), got.part, c.s, show(c.want))
		}
		checkParse(t, c.s, result{t: c.want})
		checkLocation(t, c.s, c.want)
	}
}

// checkWrong checks Parse for a wrong text, and the definition.
func checkWrong(t *testing.T, s, part string, at int) {
	t.Helper()
	if got := parseOf(s); got.part != part || got.at != at {
		t.Errorf("the definition gives %q at %d for %q, want %q at %d", got.part, got.at, s, part, at)
	}
	checkParse(t, s, result{part: part, at: at})
}

// P17.1: texts of no form.
func TestOtherForms(t *testing.T) {
	for _, s := range []string{
		"", "h/a", "a", "h", "?", "?/", "**", "*/", "*?", "*?a", " *", "* ", "%2A", " /", "\\", ".", "..", "%2f", "%2Fa", "#", "\x00", "\xff",
		"h:80", "h:443", "[::1]:80", "example:80/a",
		"http", "http:", "http:/", "http://", "HTTP://", "http:///", "http:///a", "http://?", "http://?a", "http:///h/a", "http:/h/a", "http:h/a", "http:\\\\h/a", "http:%2f%2fh", "http//h/a", "htp://h/a", "ttp://h", "thttp://h", " http://h",
		"https://h", "https://h/a", "HTTPS://h", "ftp://h/a", "ws://h", "http ://h", "\u210bttp://h", "h\u0442tp://h", "http\uff1a//h", "h\xf4tp://h", "h\x14\x14\x10://h", "hTTP:\x0f\x0fh", "HTTP\x1a//h",
	} {
		checkWrong(t, s, "form", none)
	}
}

// P17.1: the offsets in the path are written out.
func TestWrongPaths(t *testing.T) {
	for _, c := range []struct {
		s  string
		at int
	}{
		{"/..", 1},
		{"/../", 1},
		{"/..?a", 1},
		{"/a/../..", 6},
		{"/a/../..?b", 6},
		{"/a%2fb", 1},
		{"/a/b%5C?c", 3},
		{"/%00", 1},
		{"/a b", 2},
		{"/a b?", 2},
		{"/a#b", 2},
		{"/a\\b", 2},
		{"/\x00", 1},
		{"/a\r\n", 2},
		{"/a\xff?", 2},
		{"/\u00e9", 1},
		{"/%", 1},
		{"/%4?1", 1},
		{"/a%?41", 2},
		{"/a%4g", 2},
		{"/[", 1},

		{"http://h/..", 1},
		{"http://h/..?a", 1},
		{"http://h/a/../..", 6},
		{"HTTP://h:80/a%2fb", 1},
		{"http://long.host.example:8080/a/b%5c", 3},
		{"http://h/a b", 2},
		{"http://h/%4", 1},
		{"http://h/a%zz?", 2},
		{"http://h//../..", 5},
		{"http://h/\xff", 1},
	} {
		checkWrong(t, c.s, "path", c.at)
	}
}

// P17.1: the offsets in the query are written out.
func TestWrongQueries(t *testing.T) {
	for _, c := range []struct {
		s  string
		at int
	}{
		{"/? ", 0},
		{"/?a b", 1},
		{"/abc?a b", 1},
		{"/?a#", 1},
		{"/?#", 0},
		{"/?\\", 0},
		{"/?a\x00", 1},
		{"/?ab\r\nc: d", 2},
		{"/?\n", 0},
		{"/?\t", 0},
		{"/?\x7f", 0},
		{"/?a\xff", 1},
		{"/?a\u00e9", 1},
		{"/?[1]", 0},
		{"/?a=\"", 2},
		{"/?<", 0},
		{"/?a|b", 1},
		{"/?^", 0},
		{"/?`", 0},
		{"/?{}", 0},
		{"/?%", 0},
		{"/?%4", 0},
		{"/?a%", 1},
		{"/?a%4", 1},
		{"/?%4g", 0},
		{"/?%g4", 0},
		{"/?%%41", 0},
		{"/?%4%41", 0},
		{"/?%41%4", 3},
		{"/?a%41b%%", 5},
		{"/??%4?", 1},
		{"/a/b?/%2f/%2", 5},
		{"/a%20b?%20 ", 3},

		{"http://h? ", 0},
		{"http://h?a%", 1},
		{"http://h/?a%4", 1},
		{"http://h:80/abc?%41 ", 3},
		{"http://h/a?b#c", 1},
	} {
		checkWrong(t, c.s, "query", c.at)
	}
}

// P17.1: an error of a part that is described first is the one; of the bytes that are wrong in a query, the one that stands first.
func TestOrderOfErrors(t *testing.T) {
	for _, c := range []struct {
		s, part string
		at      int
	}{
		{"a b? ", "form", none},
		{"*?%", "form", none},
		{"http:///..?%", "form", none},
		{"http://?%", "form", none},
		{"..? ", "form", none},
		{"/..? ", "path", 1},
		{"/..?%", "path", 1},
		{"/%?%", "path", 1},
		{"/a?%/..", "query", 0},
		{"/a/b%2f?%4", "path", 3},
		{"/a/../../b\\?#", "path", 10},
		{"http://h/ ?#", "path", 1},
		{"http://h/..?%zz", "path", 1},
		{"/? %", "query", 0},
		{"/?% ", "query", 0},
		{"/?a %4", "query", 1},
		{"/?a%4 ", "query", 1},
		{"/?a%4#", "query", 1},
		{"/?#a%4", "query", 0},
		{"/?%20 %", "query", 3},
		{"/?%20% ", "query", 3},
		{"/?% %20", "query", 0},
	} {
		checkWrong(t, c.s, c.part, c.at)
	}
}

// P17.1, P17.4: each byte in each place, instead of the byte there or before it, as it is and as a triple.
func TestBytes(t *testing.T) {
	for _, s := range []string{"/a/../b%20c?x=%2f/?", "HTTP://h:80/a/?b", "http://h?", "http://h", "*", "/", "/?", "/?%2f%", "/..?%"} {
		for i := range len(s) + 1 {
			check(t, s[:i])
			check(t, s[i:])
			eachByte(func(c string) {
				for _, c := range []string{c, fmt.Sprintf("%%%02x", c), fmt.Sprintf("%%%02X", c)} {
					check(t, s[:i]+c+s[i:])
					check(t, s[:i]+c+s[min(i+1, len(s)):])
				}
			})
		}
	}
}

// P17.1: all pairs of bytes after a percent sign in a query.
func TestTriples(t *testing.T) {
	eachByte(func(c string) {
		eachByte(func(d string) {
			check(t, "/a?b%"+c+d)
			check(t, "http://h?%41%"+c+d+"b?")
		})
	})
}

// P17.1: the letters of http in any case, and with one bit changed.
func TestSchemes(t *testing.T) {
	const scheme = "http://"
	for n := range 1 << len(scheme) {
		text := []byte(scheme + "h/a")
		letters := true
		for i := range len(scheme) {
			if n>>i&1 == 1 {
				text[i] ^= 32
				letters = letters && i < 4
			}
		}
		want := result{t: at("h", file("a"))}
		if !letters {
			want = result{part: "form", at: none}
		}
		checkParse(t, string(text), want)
	}
}

// P17.1, P17.4: all texts of few pieces.
func TestAllTexts(t *testing.T) {
	join := func(list []string) string { return strings.Join(list, "") }
	eachList([]string{"/", "?", "*", "a", "%2e", "%", ".."}, 6, func(list []string) { check(t, join(list)) })
	eachList([]string{"/", "?", "a", "%2F", "%4", " ", "\xff"}, 5, func(list []string) {
		check(t, "/"+join(list))
		check(t, "http://"+join(list))
		check(t, "HTTP://h"+join(list))
	})
	eachList([]string{"http", "HTTP", ":", "/", "//", "h", "?"}, 5, func(list []string) { check(t, join(list)) })
}

// P17.2: the texts are written out, whatever the target is.
func TestLocation(t *testing.T) {
	for _, c := range []struct {
		t    target.Target
		want string
	}{
		{target.Target{}, "/"},
		{target.Target{Kind: 3}, "/"},
		{target.Target{Kind: 3, Query: "a", HasQuery: true}, "/?a"},
		{target.Target{HasQuery: true}, "/?"},
		{target.Target{Query: "a"}, "/"},
		{origin(dir()), "/"},
		{origin(dir(), ""), "/?"},
		{origin(dir(), "x=1"), "/?x=1"},
		{origin(file("a")), "/a/"},
		{origin(dir("a")), "/a/"},
		{origin(file("docs", "b"), "x=1"), "/docs/b/?x=1"},
		{origin(dir("a", "b"), ""), "/a/b/?"},
		{origin(file("")), "//"},
		{origin(dir("")), "//"},
		{origin(file("", "h")), "//h/"},
		{origin(file("a", ""), "q"), "/a//?q"},
		{origin(file("b c", "?", "\u00e9", "\r\n")), "/b%20c/%3F/%C3%A9/%0D%0A/"},
		{origin(file("a/b", "..", "%2e")), "/a%2Fb/../%252e/"},
		{origin(file("~a-b._"), "%2f%2F/?&"), "/~a-b._/?%2f%2F/?&"},
		{origin(file("a"), "b c\r\n\x00#\xff%"), "/a/?b c\r\n\x00#\xff%"},
		{at("h:80", dir()), "/"},
		{at("h:80", file("a"), "b"), "/a/?b"},
		{target.Target{Kind: -7, Host: "\n", Path: file("a")}, "/a/"},
	} {
		if got := target.Location(c.t); got != c.want {
			t.Errorf("Location(%s) = %q, want %q", show(c.t), got, c.want)
		}
	}
}

// P17.2, P17.4: each byte in a segment and in a query.
func TestLocationOfBytes(t *testing.T) {
	eachByte(func(c string) {
		p := file("x"+c, c)
		text := segs.Text(dir("x"+c, c))
		if got := target.Location(origin(p)); got != text {
			t.Errorf("Location of %q = %q", c, got)
		}
		if got := target.Location(origin(p, c)); got != text+"?"+c {
			t.Errorf("Location of %q with a query = %q", c, got)
		}
	})
}

// P17.3
func TestSame(t *testing.T) {
	var targets []target.Target
	for _, kind := range []int{0, 1, 2, 3, -1} {
		for _, host := range []string{"", "h", "H", "h:80", "\xff", "\xfe"} {
			for _, p := range []segs.Path{dir(), file(), file("a"), dir("a"), file("a", "b"), file("a/b"), file("A")} {
				for _, query := range []string{"", "x", "X", "%78"} {
					for _, has := range []bool{false, true} {
						targets = append(targets, target.Target{Kind: kind, Host: host, Path: p, Query: query, HasQuery: has})
					}
				}
			}
		}
	}
	for i, a := range targets {
		for k, b := range targets {
			// The other one has memory of its own.
			b.Path.Segs = slices.Clone(b.Path.Segs)
			if got := target.Same(a, b); got != (i == k) {
				t.Fatalf("Same(%s, %s) = %t", show(a), show(b), got)
			}
		}
	}
	if !target.Same(origin(segs.Path{}), origin(segs.Path{Segs: []string{}})) {
		t.Error("a nil slice and an empty one are not the same")
	}
}

// P17.3: targets of texts.
func TestSameOfTexts(t *testing.T) {
	for _, c := range []struct {
		a, b string
		want bool
	}{
		{"/a/./b?x", "/a/b?x", true},
		{"/%61", "/a", true},
		{"http://h", "HTTP://h/", true},
		{"*", "*", true},
		{"/a", "/a/", false},
		{"/a", "/a?", false},
		{"/?%61", "/?a", false},
		{"http://h", "http://H", false},
		{"http://h", "http://h:80", false},
		{"http://h/a", "/a", false},
		{"*", "/", false},
		{"*", "/*", false},
	} {
		a, err := target.Parse(c.a)
		b, other := target.Parse(c.b)
		if err != nil || other != nil || target.Same(a, b) != c.want || target.Same(b, a) != c.want {
			t.Errorf("%q and %q: %v, %v, want %t", c.a, c.b, err, other, c.want)
		}
	}
}

// P17.1 to P17.4: long texts.
func TestLong(t *testing.T) {
	const n = 1 << 17
	long := strings.Repeat("x", n)
	down, up := strings.Repeat("/a", n), strings.Repeat("/..", n)
	many := slices.Repeat([]string{"a"}, n)
	for _, c := range []struct {
		s    string
		want result
	}{
		{"/" + long + "?" + long, result{t: origin(file(long), long)}},
		{"/?" + strings.Repeat("%2f", n), result{t: origin(dir(), strings.Repeat("%2f", n))}},
		{"/" + strings.Repeat("?", n), result{t: origin(dir(), strings.Repeat("?", n-1))}},
		{"http://" + long, result{t: at(long, dir())}},
		{"http://" + long + down + up + "?" + up, result{t: at(long, dir(), up)}},
		{"HTTP://h" + down + "?" + down, result{t: at("h", file(many...), down)}},
		{strings.Repeat("*", n), result{part: "form", at: none}},
		{long + "/", result{part: "form", at: none}},
		{strings.Repeat("http", n) + "://h", result{part: "form", at: none}},
		{"http:" + strings.Repeat("/", n), result{part: "form", at: none}},
		{"http://" + long + down + up + "/..?%", result{part: "path", at: 5*n + 1}},
		{"/" + long + " ?" + long, result{part: "path", at: n + 1}},
		{"/" + long + "?" + long + "#", result{part: "query", at: n}},
		{"/?" + strings.Repeat("%41", n) + "%4", result{part: "query", at: 3 * n}},
		{"http://" + long + "?" + long + " %", result{part: "query", at: n}},
	} {
		checkParse(t, c.s, c.want)
		if c.want.part == "" {
			checkLocation(t, c.s, c.want.t)
			if !target.Same(c.want.t, parseOf(c.s).t) {
				t.Errorf("%.60q: the target is not the same", c.s)
			}
		}
	}
}

// P17.1, P17.4: random texts.
func TestRandom(t *testing.T) {
	random := rand.New(rand.NewSource(17))
	pieces := []string{"/", "/", "/a", "/b", "/..", "/.", "?", "x=1", "&", "%20", "%2e", "*", "~", "@", "http://", "h:80"}
	wrong := []string{"%2f", "%5C", "%", " ", "\\", "\xff", "#", "\r\n", "\x00"}
	for range 40000 {
		var list []string
		for range random.Intn(12) {
			list = append(list, pieces[random.Intn(len(pieces))])
		}
		for range random.Intn(3) {
			list = slices.Insert(list, random.Intn(len(list)+1), wrong[random.Intn(len(wrong))])
		}
		text := strings.Join(list, "")
		for _, begin := range []string{"", "/", "http://", "hTTp://h", "/a?"} {
			check(t, begin+text)
		}
	}
}

// Arguments stay as they are, also behind the ends of slices.
func TestArgumentsStay(t *testing.T) {
	list := []string{"a", "b", "", "..", "behind"}
	old := slices.Clone(list)
	for n := range list {
		one := target.Target{Kind: 1, Path: file(list[:n]...), Query: "q", HasQuery: true}
		target.Location(one)
		target.Same(one, origin(file(list[:n:n]...), "q"))
		if one.Path.Dir || len(one.Path.Segs) != n {
			t.Errorf("%s", show(one))
		}
	}
	if !slices.Equal(list, old) {
		t.Errorf("%q", list)
	}
}

// Results share no memory with each other.
func TestResultsShareNothing(t *testing.T) {
	for _, s := range []string{"/a/b/../c?d", "http://h/a/c"} {
		one, _ := target.Parse(s)
		two, _ := target.Parse(s)
		list := two.Path.Segs[:cap(two.Path.Segs)]
		for i := range list {
			list[i] = "changed"
		}
		if !slices.Equal(one.Path.Segs, []string{"a", "c"}) {
			t.Errorf("%s", show(one))
		}
	}
}

// The functions may be called concurrently.
func TestConcurrent(t *testing.T) {
	const text = "HTTP://h/a/../b%20c?x=%2f"
	var group sync.WaitGroup
	for range 8 {
		group.Go(func() {
			for range 200 {
				one, err := target.Parse(text)
				if err != nil || !target.Same(one, at("h", file("b c"), "x=%2f")) {
					t.Error(show(one), err)
				}
				if got := target.Location(one); got != "/b%20c/?x=%2f" {
					t.Error(got)
				}
				if _, err := target.Parse("/a?b%"); err == nil || errors.Unwrap(err) != error(api.Fault{Status: 400, At: 1}) {
					t.Error(err)
				}
			}
		})
	}
	group.Wait()
}
