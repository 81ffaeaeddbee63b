package segs_test

import (
	"errors"
	"fmt"
	"math/rand"
	"net/url"
	"regexp"
	"slices"
	"strings"
	"sync"
	"testing"

	"doorkeeper/api"
	"doorkeeper/segs"
)

// begin matches what a path text may begin with, as far as it goes.
var begin = regexp.MustCompile(`^/(?:[/A-Za-z0-9._~!$&'()*+,;=:@-]|%[0-9A-Fa-f][0-9A-Fa-f])*`)

// dir returns the path of a directory.
func dir(list ...string) segs.Path { return segs.Path{Segs: list, Dir: true} }

// file returns a path that is not one of a directory.
func file(list ...string) segs.Path { return segs.Path{Segs: list} }

// show returns a text that shows a path.
func show(p segs.Path) string { return fmt.Sprintf("{%.200q %t}", p.Segs, p.Dir) }

// same reports whether two paths are the same.
func same(a, b segs.Path) bool { return slices.Equal(a.Segs, b.Segs) && a.Dir == b.Dir }

// rawOf returns the raw segments of a string by the definition.
func rawOf(s string) []string {
	var list []string
	for i := range len(s) {
		switch {
		case s[0] != '/':
			return nil
		case s[i] == '/':
			list = append(list, "")
		default:
			list[len(list)-1] += s[i : i+1]
		}
	}
	return list
}

// pathOf returns the path of decoded segments by the definition, or the index of the one that climbs above the root (-1 otherwise).
func pathOf(decoded []string) (segs.Path, int) {
	list := []string{}
	end := len(decoded) - 1
	for i, s := range decoded {
		switch {
		case s == ".." && len(list) == 0:
			return segs.Path{}, i
		case s == "..":
			list = slices.Delete(list, len(list)-1, len(list))
		case s != "." && (i < end || s != ""):
			list = append(list, s)
		}
	}
	return segs.Path{Segs: list, Dir: end >= 0 && slices.Contains([]string{"", ".", ".."}, decoded[end])}, -1
}

// parseOf returns the path of a string by the definition, or the offset of the error (-1 otherwise).
func parseOf(s string) (segs.Path, int) {
	if n := len(begin.FindString(s)); n < len(s) || s == "" {
		return segs.Path{}, n
	}
	raw := rawOf(s)
	var decoded []string
	for _, r := range raw {
		text, err := url.PathUnescape(r)
		if err != nil {
			panic(err)
		}
		decoded = append(decoded, text)
	}
	p := segs.Path{}
	index := slices.IndexFunc(decoded, func(s string) bool { return strings.ContainsAny(s, "/\\\x00") })
	if index < 0 {
		p, index = pathOf(decoded)
	}
	if index < 0 {
		return p, -1
	}
	return segs.Path{}, len(strings.Join(raw[:index], "/")) + min(index, 1) + 1
}

// checkParse checks Parse.
func checkParse(t *testing.T, s string, want segs.Path, at int) {
	t.Helper()
	got, err := segs.Parse(s)
	if at < 0 {
		if !same(got, want) || err != nil {
			t.Fatalf("Parse(%.200q) = %s, %v, want %s", s, show(got), err, show(want))
		}
		return
	}
	if len(got.Segs) > 0 || got.Dir {
		t.Fatalf("Parse(%.200q) = %s with an error", s, show(got))
	}
	if f, ok := err.(api.Fault); !ok || f != (api.Fault{Status: 400, At: at}) {
		t.Fatalf("Parse(%.200q): error %#v, want the offset %d", s, err, at)
	}
	if !errors.Is(err, api.BadRequest) {
		t.Fatalf("Parse(%.200q): errors.Is does not find 400", s)
	}
}

// checkPath checks what P16.4 says of the path of a path text.
func checkPath(t *testing.T, s string, p segs.Path) {
	t.Helper()
	for _, one := range p.Segs {
		if one == "." || one == ".." || strings.ContainsAny(one, "/\\\x00") {
			t.Fatalf("the path of %.200q has the segment %q", s, one)
		}
	}
	if again, err := segs.Parse(segs.Text(p)); !same(again, p) || err != nil {
		t.Fatalf("%.200q: Parse(Text(%s)) = %s, %v", s, show(p), show(again), err)
	}
}

// check checks Parse and Raw against the definition, and P16.4 for the path.
func check(t *testing.T, s string) {
	t.Helper()
	want, at := parseOf(s)
	checkParse(t, s, want, at)
	if got := segs.Raw(s); !slices.Equal(got, rawOf(s)) {
		t.Fatalf("Raw(%q) = %q, want %q", s, got, rawOf(s))
	}
	if at < 0 {
		checkPath(t, s, want)
	}
}

// checkClean checks Clean against the definition.
func checkClean(t *testing.T, decoded []string) {
	t.Helper()
	want, index := pathOf(decoded)
	if got, ok := segs.Clean(decoded); !same(got, want) || ok != (index < 0) {
		t.Fatalf("Clean(%.200q) = %s, %t, want %s", decoded, show(got), ok, show(want))
	}
}

// eachList calls a function for all lists of up to n of some pieces.
func eachList(pieces []string, n int, call func(list []string)) {
	var list []string
	var extend func()
	extend = func() {
		call(slices.Clone(list))
		if len(list) == n {
			return
		}
		for _, p := range pieces {
			list = append(list, p)
			extend()
			list = list[:len(list)-1]
		}
	}
	extend()
}

// eachByte calls a function for each byte.
func eachByte(call func(c string)) {
	for n := range 256 {
		call(string([]byte{byte(n)}))
	}
}

// P16.1: the results are written out.
func TestParse(t *testing.T) {
	for _, c := range []struct {
		s    string
		want segs.Path
	}{
		{"/a/./b%20c/../d/", dir("a", "d")},
		{"/a//b", file("a", "", "b")},
		{"/", dir()},
		{"//", dir("")},
		{"///", dir("", "")},
		{"//a", file("", "a")},
		{"/a", file("a")},
		{"/a/", dir("a")},
		{"/a//", dir("a", "")},
		{"/a/b", file("a", "b")},
		{"/.", dir()},
		{"/./", dir()},
		{"/./.", dir()},
		{"/a/.", dir("a")},
		{"/a/./", dir("a")},
		{"/a/./b", file("a", "b")},
		{"/./a", file("a")},
		{"/a/..", dir()},
		{"/a/../", dir()},
		{"/a/../b", file("b")},
		{"/a/b/..", dir("a")},
		{"/a/b/../..", dir()},
		{"/a/b/../../c", file("c")},
		{"/a/../b/../c/..", dir()},
		{"/a//..", dir("a")},
		{"//..", dir()},
		{"//../a", file("a")},
		{"/a//../..", dir()},
		{"/a/./..", dir()},
		{"/a/.././/b", file("", "b")},

		{"/%2e", dir()},
		{"/a/%2E", dir("a")},
		{"/a/%2e%2e", dir()},
		{"/a/.%2E/b", file("b")},
		{"/a/%2E./b", file("b")},
		{"/...", file("...")},
		{"/.a", file(".a")},
		{"/..a", file("..a")},
		{"/a..", file("a..")},
		{"/..%20", file(".. ")},
		{"/.%20/", dir(". ")},
		{"/%20.", file(" .")},
		{"/%252e%252e", file("%2e%2e")},
		{"/%25%32%65", file("%2e")},
		{"/%252f", file("%2f")},
		{"/%255c%2500", file("%5c%00")},
		{"/a/%252e%252e/b", file("a", "%2e%2e", "b")},

		{"/b%20c", file("b c")},
		{"/a+b", file("a+b")},
		{"/%2B", file("+")},
		{"/%3f%23%3A", file("?#:")},
		{"/%01%0d%0A%09%7f", file("\x01\r\n\t\x7f")},
		{"/%c3%A9%ff", file("\u00e9\xff")},
		{"/-._~!$&'()*+,;=:@", file("-._~!$&'()*+,;=:@")},
		{"/http://h:80/a", file("http:", "", "h:80", "a")},
	} {
		if got, at := parseOf(c.s); !same(got, c.want) || at >= 0 {
			t.Errorf("the definition gives %s, %d for %q, want %s", show(got), at, c.s, show(c.want))
		}
		checkParse(t, c.s, c.want, -1)
		checkPath(t, c.s, c.want)
	}
}

// P16.1: the offsets are written out.
func TestParseWrongTexts(t *testing.T) {
	for _, c := range []struct {
		s  string
		at int
	}{
		{"", 0},
		{"a", 0},
		{"a/", 0},
		{"*", 0},
		{"%2f", 0},
		{"%2Fa", 0},
		{"\\a", 0},
		{"..", 0},
		{".", 0},
		{" /a", 0},
		{"%", 0},
		{"?/", 0},
		{"http://h/", 0},

		{"/ ", 1},
		{"/a b", 2},
		{"/a/b?c", 4},
		{"/a#", 2},
		{"/\\", 1},
		{"/a/\\..", 3},
		{"/\x00", 1},
		{"/a\r\n", 2},
		{"/\x7f", 1},
		{"/\u00e9", 1},
		{"/a\xff", 2},
		{"/a|b", 2},
		{"/[", 1},
		{"/%20\"", 4},
		{"/%", 1},
		{"/%4", 1},
		{"/a%4", 2},
		{"/%4g", 1},
		{"/%g4", 1},
		{"/%%", 1},
		{"/%%41", 1},
		{"/%4%41", 1},
		{"/%4/1", 1},
		{"/%/41", 1},
		{"/%41%", 4},
		{"/a/%41/%4x", 7},
		{"/% 4", 1},
		{"/%4 ", 1},

		{"/a%2fb", 1},
		{"/a%2Fb", 1},
		{"/%2f", 1},
		{"/a/b%5c", 3},
		{"/a/b%5C", 3},
		{"/%00", 1},
		{"/a/b/c%00", 5},
		{"//%2f", 2},
		{"///%2f/", 3},
		{"/%20/a%2f", 5},
		{"/a%2e%2e%2f", 1},
		{"/a/%2fb/c%2f", 3},
		{"/a/../b%5c/..", 6},

		{"/..", 1},
		{"/../", 1},
		{"/../a", 1},
		{"/a/../..", 6},
		{"/a/../../b", 6},
		{"/a/../../../..", 6},
		{"/./..", 3},
		{"/././../a", 5},
		{"//../..", 5},
		{"/%2e%2e", 1},
		{"/%2E./a", 1},
		{"/a/.%2e/%2e%2e", 8},
		{"/%61/../%2e%2e", 8},
		{"/a/b/../../..", 11},
	} {
		if _, at := parseOf(c.s); at != c.at {
			t.Errorf("the definition gives %d for %q, want %d", at, c.s, c.at)
		}
		checkParse(t, c.s, segs.Path{}, c.at)
	}
}

// P16.1: an error that is described first is the one, wherever it stands; of the bytes that are wrong in a text, the one that stands first.
func TestOrderOfErrors(t *testing.T) {
	for _, c := range []struct {
		s  string
		at int
	}{
		{"a ", 0},
		{"a%", 0},
		{"../%2f", 0},
		{"a/../..", 0},
		{"%2f ", 0},

		{"/ %", 1},
		{"/% ", 1},
		{"/a %4", 2},
		{"/a%4 ", 2},
		{"/a%4\x00", 2},
		{"/a%\xff4", 2},
		{"/%20 %", 4},
		{"/%20% ", 4},

		{"/%2f/ ", 5},
		{"/%00/a%", 6},
		{"/%5c\\", 4},
		{"/../ ", 4},
		{"/../%4", 4},
		{"/../%2f/a%", 9},
		{"/a/../../b\\", 10},

		{"/../%2f", 4},
		{"/../a%5Cb/c%00", 4},
		{"/../../../%00", 10},
		{"/%2e%2e/a%00", 8},
		{"/%2f/..", 1},
	} {
		if _, at := parseOf(c.s); at != c.at {
			t.Errorf("the definition gives %d for %q, want %d", at, c.s, c.at)
		}
		checkParse(t, c.s, segs.Path{}, c.at)
	}
}

// P16.1: each byte in each place, instead of the byte there or before it, as it is and as a triple.
func TestBytes(t *testing.T) {
	for _, s := range []string{"/a/./b%20c/../d/", "/%2e/a//%2E%2e/b", "/", "", "/..", "/a/%2f"} {
		for i := range len(s) + 1 {
			check(t, s[:i])
			check(t, s[i:])
			eachByte(func(c string) {
				for _, c := range []string{c, fmt.Sprintf("%%%02x", c), fmt.Sprintf("%%%02X", c)} {
					check(t, s[:i]+c+s[i:])
					check(t, s[:i]+c+s[min(i+1, len(s)):])
					check(t, "/"+c+s[i:])
				}
			})
		}
	}
}

// P16.1: all pairs of bytes after a percent sign, in a segment and as one.
func TestTriples(t *testing.T) {
	eachByte(func(c string) {
		eachByte(func(d string) {
			check(t, "/a/%"+c+d)
			check(t, "/.%"+c+d+"b/..")
		})
	})
}

// P16.1, P16.2, P16.4: all texts of few pieces.
func TestAllTexts(t *testing.T) {
	join := func(list []string) string { return strings.Join(list, "") }
	eachList([]string{"/", ".", "a", "%2e", "%2F"}, 7, func(list []string) { check(t, join(list)) })
	eachList([]string{"/", "..", "a", "%2E", "%5c", "%00", "%", " ", "2f"}, 5, func(list []string) { check(t, join(list)) })
	eachList([]string{"/", "/a", "/..", "/.", "/%2e%2E", "/%41"}, 6, func(list []string) { check(t, join(list)) })
}

// P16.2: the results are written out. A string is not decoded, and may have any bytes.
func TestRaw(t *testing.T) {
	for _, c := range []struct {
		s    string
		want []string
	}{
		{"", nil},
		{"a", nil},
		{"a/b", nil},
		{"a/", nil},
		{"%2fa", nil},
		{"\\a", nil},
		{" /", nil},
		{"/", []string{""}},
		{"//", []string{"", ""}},
		{"///", []string{"", "", ""}},
		{"/a", []string{"a"}},
		{"/a/", []string{"a", ""}},
		{"//a", []string{"", "a"}},
		{"/a//b", []string{"a", "", "b"}},
		{"/a/./b%20c/../d/", []string{"a", ".", "b%20c", "..", "d", ""}},
		{"/..", []string{".."}},
		{"/../../", []string{"..", "..", ""}},
		{"/a%2fb%", []string{"a%2fb%"}},
		{"/ \x00\\/\xff?/\r\n", []string{" \x00\\", "\xff?", "\r\n"}},
		{"/\u2215a\uff0fb", []string{"\u2215a\uff0fb"}},
	} {
		if got := segs.Raw(c.s); !slices.Equal(got, c.want) {
			t.Errorf("Raw(%q) = %q, want %q", c.s, got, c.want)
		}
	}
}

// P16.2: the results are written out; segments may have any bytes, and are not decoded.
func TestClean(t *testing.T) {
	for _, c := range []struct {
		decoded []string
		want    segs.Path
	}{
		{nil, file()},
		{[]string{}, file()},
		{[]string{""}, dir()},
		{[]string{"."}, dir()},
		{[]string{"a"}, file("a")},
		{[]string{"a", ""}, dir("a")},
		{[]string{"", "a"}, file("", "a")},
		{[]string{"", ""}, dir("")},
		{[]string{"", "", ""}, dir("", "")},
		{[]string{"a", "."}, dir("a")},
		{[]string{"a", ".."}, dir()},
		{[]string{"a", "..", "b"}, file("b")},
		{[]string{"a", "..", "."}, dir()},
		{[]string{"a", ".", "..", ""}, dir()},
		{[]string{"", ".."}, dir()},
		{[]string{"a", "", ".."}, dir("a")},
		{[]string{"a", "b", "..", "..", "c"}, file("c")},
		{[]string{"a/..", "b"}, file("a/..", "b")},
		{[]string{"/", "\\", "\x00"}, file("/", "\\", "\x00")},
		{[]string{"%2e%2e", "%2e", ""}, dir("%2e%2e", "%2e")},
		{[]string{"...", " ..", ".. ", "..\x00"}, file("...", " ..", ".. ", "..\x00")},
		{[]string{"\xff", "\u00e9"}, file("\xff", "\u00e9")},
	} {
		if got, index := pathOf(c.decoded); !same(got, c.want) || index >= 0 {
			t.Errorf("the definition gives %s, %d for %q, want %s", show(got), index, c.decoded, show(c.want))
		}
		if got, ok := segs.Clean(c.decoded); !same(got, c.want) || !ok {
			t.Errorf("Clean(%q) = %s, %t, want %s", c.decoded, show(got), ok, show(c.want))
		}
	}
	for _, decoded := range [][]string{
		{".."}, {"..", "a"}, {"..", ""}, {".", ".."}, {"a", "..", ".."}, {"a", "..", "..", "b", "c"}, {"", "..", ".."}, {"a", "b", "..", "..", "..", "c"}, {"..", ".", "."},
	} {
		if got, ok := segs.Clean(decoded); len(got.Segs) > 0 || got.Dir || ok {
			t.Errorf("Clean(%q) = %s, %t", decoded, show(got), ok)
		}
	}
}

// P16.2: all lists of few segments; paths have no dots, and are their own paths.
func TestCleanAllLists(t *testing.T) {
	for _, pieces := range [][]string{{"", ".", "..", "a"}, {"..", "a", "b", ""}, {"..", "/", "\\", "...", "%2e", "\x00."}} {
		eachList(pieces, 6, func(list []string) {
			checkClean(t, list)
			p, ok := segs.Clean(list)
			if slices.Contains(p.Segs, ".") || slices.Contains(p.Segs, "..") {
				t.Fatalf("Clean(%q) = %s", list, show(p))
			}
			if !ok || len(list) == 0 {
				return
			}
			again := p.Segs
			if p.Dir {
				again = append(slices.Clone(p.Segs), "")
			}
			if got, ok := segs.Clean(again); !same(got, p) || !ok {
				t.Fatalf("Clean(%q) = %s, %t, want %s", again, show(got), ok, show(p))
			}
		})
	}
}

// P16.3: the texts are written out, whatever the segments are.
func TestText(t *testing.T) {
	for _, c := range []struct {
		p    segs.Path
		want string
	}{
		{file(), "/"},
		{dir(), "/"},
		{segs.Path{Segs: []string{}}, "/"},
		{file("a"), "/a"},
		{dir("a"), "/a/"},
		{file("a", "b"), "/a/b"},
		{dir("a", "b"), "/a/b/"},
		{file(""), "/"},
		{dir(""), "//"},
		{file("", ""), "//"},
		{dir("", ""), "///"},
		{file("a", "", "b"), "/a//b"},
		{file("", "a"), "//a"},
		{dir("a", ""), "/a//"},
		{file("a", ""), "/a/"},
		{file("b c"), "/b%20c"},
		{dir("b c", "%20"), "/b%20c/%2520/"},
		{file("a/b", "\\", "\x00"), "/a%2Fb/%5C/%00"},
		{file("."), "/."},
		{dir("..", "."), "/.././"},
		{file("-._~!$&'()*+,;=:@"), "/-._~%21%24%26%27%28%29%2A%2B%2C%3B%3D%3A%40"},
		{file("\r\n", "\u00e9", "\xff"), "/%0D%0A/%C3%A9/%FF"},
		{dir("?", "#"), "/%3F/%23/"},
	} {
		if got := segs.Text(c.p); got != c.want {
			t.Errorf("Text(%s) = %q, want %q", show(c.p), got, c.want)
		}
	}
}

// P16.3, P16.4: each byte in a segment.
func TestTextOfBytes(t *testing.T) {
	eachByte(func(c string) {
		want := "%" + fmt.Sprintf("%02X", c)
		if strings.Contains("ABCDEFGHIJKLMNOPQRSTUVWXYZabcdefghijklmnopqrstuvwxyz0123456789-._~", c) {
			want = c
		}
		if got := segs.Text(file("x"+c, c+"y")); got != "/x"+want+"/"+want+"y" {
			t.Errorf("Text of %q = %q", c, got)
		}
		if got := segs.Text(dir(c)); got != "/"+want+"/" {
			t.Errorf("Text of %q = %q", c, got)
		}
		if !strings.Contains("/\\\x00.", c) {
			checkPath(t, c, file(c))
			checkPath(t, c, dir("a", c))
			checkPath(t, c, dir(c, "", c+c))
		}
	})
}

// P16.3, P16.4: all paths of few segments; those that the promise names are parsed from their texts again.
func TestTextAgain(t *testing.T) {
	eachList([]string{"", "a", "B c", "...", "%2e%2e", "+", "\xff"}, 5, func(list []string) {
		for _, isDir := range []bool{false, true} {
			p := segs.Path{Segs: list, Dir: isDir}
			want := p
			switch {
			case len(list) == 0:
				want.Dir = true
			case !isDir && list[len(list)-1] == "":
				continue
			}
			if got, err := segs.Parse(segs.Text(p)); !same(got, want) || err != nil {
				t.Fatalf("Parse(Text(%s)) = %s, %v", show(p), show(got), err)
			}
		}
	})
}

// P16.3
func TestSame(t *testing.T) {
	paths := []segs.Path{
		dir(), file(), dir("a"), file("a"), file("A"), file("a", "b"), dir("a", "b"), file("b", "a"), file("a", "b", "c"), file("a", ""), file("", "a"), file("", ""), file(""), dir(""), dir("", ""),
		file("ab"), file("a/b"), file("a%2Fb"), file("a", "b "), file("."), file(".."), file("a\x00"), file("\xff"), file("\xfe"), file("\ufffd"), file("\u00e9"), file("e\u0301"),
	}
	for i, a := range paths {
		for k, b := range paths {
			// The other one has memory of its own.
			b.Segs = slices.Clone(b.Segs)
			if got := segs.Same(a, b); got != (i == k) {
				t.Errorf("Same(%s, %s) = %t", show(a), show(b), got)
			}
		}
	}
	if !segs.Same(segs.Path{}, segs.Path{Segs: []string{}}) || !segs.Same(segs.Path{Segs: []string{}, Dir: true}, dir()) {
		t.Error("a nil slice and an empty one are not the same")
	}
	eachList([]string{"", "a", "b"}, 3, func(one []string) {
		eachList([]string{"", "a", "b"}, 3, func(two []string) {
			equal := slices.Equal(one, two)
			if segs.Same(file(one...), file(two...)) != equal || segs.Same(dir(one...), dir(two...)) != equal || segs.Same(file(one...), dir(two...)) {
				t.Fatalf("Same of %q and %q", one, two)
			}
		})
	})
}

// P16.1 to P16.4: many and long segments.
func TestLong(t *testing.T) {
	const n = 1 << 17
	long := strings.Repeat("x", n)
	many := slices.Repeat([]string{"a"}, n)
	up, down := strings.Repeat("/..", n), strings.Repeat("/a", n)
	for _, c := range []struct {
		s    string
		want segs.Path
		at   int
	}{
		{"/" + long, file(long), -1},
		{"/" + long + "/" + long + "/", dir(long, long), -1},
		{"/" + strings.Repeat("%20", n), file(strings.Repeat(" ", n)), -1},
		{down, file(many...), -1},
		{down + "/", dir(many...), -1},
		{down + "//b", file(append(slices.Clone(many), "", "b")...), -1},
		{strings.Repeat("/", n+1), dir(make([]string, n)...), -1},
		{strings.Repeat("/.", n), dir(), -1},
		{down + up, dir(), -1},
		{down + up + "/a", file("a"), -1},
		{strings.Repeat("/a/..", n) + down, file(many...), -1},
		{"/" + strings.Repeat(".", n), file(strings.Repeat(".", n)), -1},
		{down + up + "/..", segs.Path{}, 5*n + 1},
		{down + up + "/../a", segs.Path{}, 5*n + 1},
		{"/" + long + "%2f", segs.Path{}, 1},
		{down + "/" + long + "%00", segs.Path{}, 2*n + 1},
		{up + "/%2f", segs.Path{}, 3*n + 1},
		{up + down + " ", segs.Path{}, 5 * n},
		{up + down + "%4", segs.Path{}, 5 * n},
		{"/" + long + "%", segs.Path{}, n + 1},
	} {
		checkParse(t, c.s, c.want, c.at)
		if c.at < 0 {
			checkPath(t, c.s, c.want)
		}
		if got := segs.Raw(c.s); "/"+strings.Join(got, "/") != c.s || len(got) != strings.Count(c.s, "/") {
			t.Errorf("Raw(%.60q) has %d segments", c.s, len(got))
		}
	}
	checkClean(t, many)
	checkClean(t, append(slices.Clone(many), slices.Repeat([]string{".."}, n)...))
	checkClean(t, append(slices.Clone(many), slices.Repeat([]string{".."}, n+1)...))
}

// P16.1, P16.2, P16.4: random texts.
func TestRandom(t *testing.T) {
	random := rand.New(rand.NewSource(16))
	pieces := []string{"/", "/", "/", "/a", "/b", "/..", "/.", "/%2e%2E", ".", "..", "%20", "%252e", "x", "~", "@"}
	wrong := []string{"%2f", "%5C", "%00", "%", " ", "\\", "\xff", "?"}
	for range 200000 {
		var list []string
		for range random.Intn(12) {
			list = append(list, pieces[random.Intn(len(pieces))])
		}
		for range random.Intn(3) {
			list = slices.Insert(list, random.Intn(len(list)+1), wrong[random.Intn(len(wrong))])
		}
		check(t, strings.Join(list, ""))
		check(t, "/"+strings.Join(list, ""))
		checkClean(t, list)
		checkClean(t, segs.Raw("/"+strings.Join(list, "/")))
	}
}

// Arguments stay as they are, also behind the ends of slices.
func TestArgumentsStay(t *testing.T) {
	list := []string{"a", "b", "..", "", ".", "c", "..", "..", "..", "..", "behind"}
	old := slices.Clone(list)
	for n := range list {
		segs.Clean(list[:n])
		p := segs.Path{Segs: list[:n], Dir: true}
		segs.Text(p)
		segs.Same(p, segs.Path{Segs: list[:n:n]})
	}
	if !slices.Equal(list, old) {
		t.Errorf("%q", list)
	}
}

// overwrite writes a text into all of a slice, also behind its end.
func overwrite(list []string) {
	list = list[:cap(list)]
	for i := range list {
		list[i] = "changed"
	}
}

// Results share no memory with arguments and each other.
func TestResultsShareNothing(t *testing.T) {
	list := []string{"a", "b", "c"}
	cleaned, _ := segs.Clean(list)
	again, _ := segs.Clean(list)
	parsed, _ := segs.Parse("/a/b/c")
	parsedAgain, _ := segs.Parse("/a/b/c")
	raw, rawAgain := segs.Raw("/a/b/c"), segs.Raw("/a/b/c")
	overwrite(list)
	overwrite(again.Segs)
	overwrite(parsedAgain.Segs)
	overwrite(rawAgain)
	want := []string{"a", "b", "c"}
	if !slices.Equal(cleaned.Segs, want) || !slices.Equal(parsed.Segs, want) || !slices.Equal(raw, want) {
		t.Errorf("%s, %s, %q", show(cleaned), show(parsed), raw)
	}
}

// The functions may be called concurrently.
func TestConcurrent(t *testing.T) {
	list := []string{"a", ".", "b c", "..", "d", ""}
	const text = "/a/./b%20c/../d/"
	var group sync.WaitGroup
	for range 8 {
		group.Go(func() {
			for range 200 {
				p, err := segs.Parse(text)
				if cleaned, ok := segs.Clean(list); err != nil || !ok || !segs.Same(p, cleaned) {
					t.Error(show(p), err, show(cleaned), ok)
				}
				if got := segs.Text(p); got != "/a/d/" || len(segs.Raw(text)) != len(list) {
					t.Error(got)
				}
				if _, err := segs.Parse("/a/../.."); err != error(api.Fault{Status: 400, At: 6}) {
					t.Error(err)
				}
			}
		})
	}
	group.Wait()
}
