package host_test

import (
	"errors"
	"fmt"
	"math"
	"math/rand"
	"regexp"
	"slices"
	"strconv"
	"strings"
	"sync"
	"testing"

	"doorkeeper/api"
	"doorkeeper/host"
	"doorkeeper/segs"
	"doorkeeper/target"
)

// The parts of host texts.
var (
	name = regexp.MustCompile(`\A([A-Za-z0-9._-]+|\[[0-9A-Fa-f:.]+\])(?::|\z)`)
	port = regexp.MustCompile(`\A[0-9]{0,5}\z`)
)

// right is the offset of the error of a text that has none.
const right = -1

// lower returns a text with small letters, of A to Z only.
func lower(s string) string {
	text := []byte(s)
	for i, c := range text {
		if strings.IndexByte("ABCDEFGHIJKLMNOPQRSTUVWXYZ", c) >= 0 {
			text[i] = c | 32
		}
	}
	return string(text)
}

// parseOf returns what Parse returns by the definition: the host, and the offset of the error.
func parseOf(s string) (host.Host, int) {
	found := name.FindStringSubmatch(s)
	if found == nil {
		return host.Host{}, 0
	}
	h := host.Host{Name: strings.ToLower(found[1]), Port: -1}
	text := s[len(found[0]):]
	if text == "" {
		return h, right
	}
	n, err := strconv.Atoi(text)
	if !port.MatchString(text) || err != nil || n > 65535 {
		return host.Host{}, len(found[0])
	}
	h.Port = n
	return h, right
}

// checkParse checks Parse.
func checkParse(t *testing.T, s string, want host.Host, at int) {
	t.Helper()
	got, err := host.Parse(s)
	if got != want {
		t.Fatalf("Parse(%.200q) = %.200v, %v, want %.200v", s, got, err, want)
	}
	var wrong error
	if at != right {
		wrong = api.Fault{Status: 400, At: at}
	}
	if err != wrong {
		t.Fatalf("Parse(%.200q): error %#v, want %#v", s, err, wrong)
	}
}

// check checks Parse against the definition, and P18.5 for the host.
func check(t *testing.T, s string) {
	t.Helper()
	want, at := parseOf(s)
	checkParse(t, s, want, at)
	if at == right {
		checkParse(t, host.Text(want), want, right)
	}
}

// findOf returns what Find returns by the definition.
func findOf(l []api.Host, name string) int {
	return slices.IndexFunc(l, func(h api.Host) bool {
		return slices.ContainsFunc(h.Names, func(s string) bool { return lower(s) == lower(name) })
	})
}

// named returns virtual hosts, each with the names that a text has between spaces.
func named(names ...string) []api.Host {
	var l []api.Host
	for i, text := range names {
		l = append(l, api.Host{Names: strings.Fields(text), Root: []string{strconv.Itoa(i)}})
	}
	return l
}

// eachList calls a function for all lists of up to n of some pieces.
func eachList(pieces []string, n int, call func(list []string)) {
	var list []string
	var extend func()
	extend = func() {
		call(slices.Clone(list))
		if len(list) == n {
			return
		}
		for _, p := range pieces {
			list = append(list, p)
			extend()
			list = list[:len(list)-1]
		}
	}
	extend()
}

// eachByte calls a function for each byte.
func eachByte(call func(c string)) {
	for n := range 256 {
		call(string([]byte{byte(n)}))
	}
}

// P18.1: the hosts are written out.
func TestParse(t *testing.T) {
	for _, c := range []struct {
		s    string
		want host.Host
	}{
		{"A.Example:080", host.Host{Name: "a.example", Port: 80}},
		{"[::1]", host.Host{Name: "[::1]", Port: -1}},
		{"a", host.Host{Name: "a", Port: -1}},
		{"a:", host.Host{Name: "a", Port: -1}},
		{"a:0", host.Host{Name: "a", Port: 0}},
		{"a:00000", host.Host{Name: "a", Port: 0}},
		{"a:1", host.Host{Name: "a", Port: 1}},
		{"a:00001", host.Host{Name: "a", Port: 1}},
		{"a:80", host.Host{Name: "a", Port: 80}},
		{"a:9999", host.Host{Name: "a", Port: 9999}},
		{"a:65535", host.Host{Name: "a", Port: 65535}},
		{"localhost:8080", host.Host{Name: "localhost", Port: 8080}},
		{"XN--Nxasmq6b.Example", host.Host{Name: "xn--nxasmq6b.example", Port: -1}},
		{"ABCDEFGHIJKLMNOPQRSTUVWXYZ", host.Host{Name: "abcdefghijklmnopqrstuvwxyz", Port: -1}},
		{"_a_.b", host.Host{Name: "_a_.b", Port: -1}},
		{"127.0.0.1:80", host.Host{Name: "127.0.0.1", Port: 80}},
		{"80", host.Host{Name: "80", Port: -1}},
		{"80:80", host.Host{Name: "80", Port: 80}},
		{"65536", host.Host{Name: "65536", Port: -1}},
		{".", host.Host{Name: ".", Port: -1}},
		{"..", host.Host{Name: "..", Port: -1}},
		{"a.", host.Host{Name: "a.", Port: -1}},
		{".a", host.Host{Name: ".a", Port: -1}},
		{"-", host.Host{Name: "-", Port: -1}},
		{"_", host.Host{Name: "_", Port: -1}},
		{"-:5", host.Host{Name: "-", Port: 5}},
		{"[::1]:", host.Host{Name: "[::1]", Port: -1}},
		{"[::1]:0443", host.Host{Name: "[::1]", Port: 443}},
		{"[2001:DB8::AbCdEf]:65535", host.Host{Name: "[2001:db8::abcdef]", Port: 65535}},
		{"[::ffff:127.0.0.1]", host.Host{Name: "[::ffff:127.0.0.1]", Port: -1}},
		{"[:]", host.Host{Name: "[:]", Port: -1}},
		{"[.]", host.Host{Name: "[.]", Port: -1}},
		{"[a]", host.Host{Name: "[a]", Port: -1}},
		{"[F]:9", host.Host{Name: "[f]", Port: 9}},
		{"[127.0.0.1]", host.Host{Name: "[127.0.0.1]", Port: -1}},
		{"[1:80]", host.Host{Name: "[1:80]", Port: -1}},
		{"[0123456789abcdefABCDEF:.]", host.Host{Name: "[0123456789abcdefabcdef:.]", Port: -1}},
	} {
		if got, at := parseOf(c.s); got != c.want || at != right {
			t.Errorf("the definition gives %v, %d for %q, want %v", got, at, c.s, c.want)
		}
		checkParse(t, c.s, c.want, right)
	}
}

// P18.1: the offsets of errors are written out. A wrong name is the error, whatever the port is.
func TestWrong(t *testing.T) {
	for _, c := range []struct {
		s  string
		at int
	}{
		{"", 0},
		{":", 0},
		{":80", 0},
		{"::1", 0},
		{" ", 0},
		{" a", 0},
		{"a ", 0},
		{"a b", 0},
		{"a\t:80", 0},
		{"a :80", 0},
		{"a,b", 0},
		{"a/b", 0},
		{"a/b:80", 0},
		{"a:80, b:80", 2},
		{"user@a", 0},
		{"user:pw@a", 5},
		{"http://a", 5},
		{"a%2e", 0},
		{"a~", 0},
		{"*", 0},
		{"a*", 0},
		{"a?", 0},
		{"a#", 0},
		{"a\\b", 0},
		{"a;b", 0},
		{"a\x00", 0},
		{"\x00", 0},
		{"a\r\n", 0},
		{"a\n", 0},
		{"\u00e9.example", 0},
		{"b\u00fccher.example:80", 0},
		{"\u212a", 0},
		{"a\u3002b", 0},
		{"\uff41", 0},
		{"a\uff1a80", 0},
		{"a\xff", 0},

		{"[", 0},
		{"]", 0},
		{"[]", 0},
		{"[]:80", 0},
		{"[:80", 0},
		{"[::1", 0},
		{"[::1:80", 0},
		{"::1]", 0},
		{"a]", 0},
		{"a]:80", 0},
		{"1:80]", 2},
		{"[::1]]", 0},
		{"[[::1]]", 0},
		{"[[::1]", 0},
		{"[::1][::1]", 0},
		{"[::1]80", 0},
		{"[::1]a", 0},
		{"[::1]a:80", 0},
		{"[::1].", 0},
		{"[::1] :80", 0},
		{"a[::1]", 0},
		{"a[::1]:80", 0},
		{"[::g]", 0},
		{"[::G]:80", 0},
		{"[::1-2]", 0},
		{"[a_b]", 0},
		{"[localhost]", 0},
		{"[fe80::1%25eth0]", 0},
		{"[fe80::1%eth0]:80", 0},
		{"[v1.a]", 0},
		{"[ ::1]", 0},
		{"[::1 ]", 0},
		{"[::1\x00]", 0},
		{"[::1]\x00", 0},
		{"[::\uff11]", 0},

		{"a:b", 2},
		{"a:b:", 2},
		{"a::", 2},
		{"a::80", 2},
		{"a:80:", 2},
		{"a:80:80", 2},
		{"a:-1", 2},
		{"a:-0", 2},
		{"a:+80", 2},
		{"a: 80", 2},
		{"a:80 ", 2},
		{"a:8 0", 2},
		{"a: ", 2},
		{"a:0x50", 2},
		{"a:8_0", 2},
		{"a:1e3", 2},
		{"a:80.", 2},
		{"a:80/", 2},
		{"a:ff", 2},
		{"a:65536", 2},
		{"a:65540", 2},
		{"a:65600", 2},
		{"a:70000", 2},
		{"a:99999", 2},
		{"a:000080", 2},
		{"a:000000", 2},
		{"a:065535", 2},
		{"a:100000", 2},
		{"a:4294967376", 2},
		{"a:18446744073709551696", 2},
		{"a:\u0661", 2},
		{"a:80\x00", 2},
		{"a:80\r\n", 2},
		{"a:\xff", 2},
		{"a.example:b", 10},
		{"a.example:80b", 10},
		{"127.0.0.1:65536", 10},
		{"[::1]::", 6},
		{"[::1]:b", 6},
		{"[::1]:65536", 6},
		{"[::1]:[::1]", 6},
		{"[::1]:000001", 6},
		{"[2001:DB8::1]:-1", 14},

		{":b", 0},
		{" a:b", 0},
		{"a :b", 0},
		{"*:65536", 0},
		{"[]:b", 0},
		{"[::1:b", 0},
		{"[::g]:b", 0},
		{"a]:65536", 0},
	} {
		if got, at := parseOf(c.s); got != (host.Host{}) || at != c.at {
			t.Errorf("the definition gives %v, %d for %q, want %d", got, at, c.s, c.at)
		}
		checkParse(t, c.s, host.Host{}, c.at)
	}
}

// P18.1: ports of all numbers, with leading zeros, for names of both classes.
func TestPorts(t *testing.T) {
	for n := range 110000 {
		for zeros := range 7 {
			text := strings.Repeat("0", zeros) + strconv.Itoa(n)
			want, at := host.Host{Name: "a.b", Port: n}, right
			if len(text) > 5 || n > 65535 {
				want, at = host.Host{}, 4
			}
			checkParse(t, "A.b:"+text, want, at)
			if at == right {
				want.Name = "[::a]"
			} else {
				at = 6
			}
			checkParse(t, "[::A]:"+text, want, at)
		}
	}
}

// P18.1, P18.5: each byte in each place, instead of the byte there or before it.
func TestBytes(t *testing.T) {
	for _, s := range []string{"A.b-_9:0080", "[::1.F]:65535", "a:6553", "a:65535", "[a]:", "[a]", "a:", "a", "[", "]", "", ":", "[]", "a:b", "[:b"} {
		for i := range len(s) + 1 {
			check(t, s[:i])
			check(t, s[i:])
			eachByte(func(c string) {
				check(t, s[:i]+c+s[i:])
				check(t, s[:i]+c+s[min(i+1, len(s)):])
			})
		}
	}
}

// P18.1: all texts of two bytes, and all pairs of them in brackets and as ports.
func TestPairs(t *testing.T) {
	eachByte(func(c string) {
		eachByte(func(d string) {
			for _, s := range []string{c + d, "[" + c + d + "]", "a:" + c + d, c + "a" + d, "[1]" + c + d} {
				check(t, s)
			}
		})
	})
}

// P18.1, P18.5: all texts of few pieces.
func TestAllTexts(t *testing.T) {
	join := func(list []string) string { return strings.Join(list, "") }
	eachList([]string{"a", ":", "[", "]", ".", "7", "G"}, 6, func(list []string) { check(t, join(list)) })
	eachList([]string{"0", "6", "5", "55", "535", "536", ":", "B"}, 5, func(list []string) {
		check(t, "a:"+join(list))
		check(t, "[b]:"+join(list))
	})
	eachList([]string{"A", "_", "-", ".", ":", " ", "[::1]", "80", "\xff", "\u212a"}, 5, func(list []string) { check(t, join(list)) })
}

// P18.2: the texts are written out, whatever the name is.
func TestText(t *testing.T) {
	for _, c := range []struct {
		h    host.Host
		want string
	}{
		{host.Host{}, ":0"},
		{host.Host{Port: -1}, ""},
		{host.Host{Name: "a", Port: -1}, "a"},
		{host.Host{Name: "a"}, "a:0"},
		{host.Host{Name: "a", Port: 1}, "a:1"},
		{host.Host{Name: "a.example", Port: 80}, "a.example:80"},
		{host.Host{Name: "A.Example", Port: 8080}, "A.Example:8080"},
		{host.Host{Name: "[::1]", Port: -1}, "[::1]"},
		{host.Host{Name: "[::1]", Port: 65535}, "[::1]:65535"},
		{host.Host{Name: "a", Port: 65536}, "a:65536"},
		{host.Host{Name: "a", Port: 100000}, "a:100000"},
		{host.Host{Name: "a", Port: math.MaxInt}, "a:9223372036854775807"},
		{host.Host{Name: "a:80", Port: -1}, "a:80"},
		{host.Host{Name: "a:80", Port: 80}, "a:80:80"},
		{host.Host{Name: " \r\n\x00\xff\u00e9", Port: 7}, " \r\n\x00\xff\u00e9:7"},
	} {
		if got := host.Text(c.h); got != c.want {
			t.Errorf("Text(%v) = %q, want %q", c.h, got, c.want)
		}
	}
}

// P18.2, P18.5: hosts of all ports.
func TestTextOfPorts(t *testing.T) {
	for _, name := range []string{"a", "a.example", "-", "[::1]", "80", "[1:80]"} {
		for n := -1; n <= 65535; n++ {
			h := host.Host{Name: name, Port: n}
			want := fmt.Sprint(name, ":", n)
			if n < 0 {
				want = name
			}
			text := host.Text(h)
			if text != want {
				t.Fatalf("Text(%v) = %q, want %q", h, text, want)
			}
			checkParse(t, text, h, right)
		}
	}
}

// P18.3: the indices are written out.
func TestFind(t *testing.T) {
	l := named("a.example www.a.example", "B.Example", "", "[::1] b.example c", "C D", "\u00e9 k s")
	for _, c := range []struct {
		name string
		want int
	}{
		{"a.example", 0},
		{"A.EXAMPLE", 0},
		{"a.Example", 0},
		{"www.a.example", 0},
		{"WWW.a.example", 0},
		{"b.example", 1},
		{"B.Example", 1},
		{"b.EXAMPLE", 1},
		{"[::1]", 3},
		{"c", 3},
		{"C", 3},
		{"d", 4},
		{"D", 4},
		{"\u00e9", 5},
		{"k", 5},
		{"K", 5},

		{"", -1},
		{"a", -1},
		{"example", -1},
		{".example", -1},
		{"a.exampl", -1},
		{"a.example.", -1},
		{"xa.example", -1},
		{"a.example:80", -1},
		{"a.example ", -1},
		{" a.example", -1},
		{"a.example www.a.example", -1},
		{"a-example", -1},
		{"aNexample", -1},
		{"[::2]", -1},
		{"{::1]", -1},
		{"[::1}", -1},
		{"[::1", -1},
		{"*", -1},
		{"\u00c9", -1},
		{"\xe9", -1},
		{"\u212a", -1},
		{"\u017f", -1},
	} {
		if got := findOf(l, c.name); got != c.want {
			t.Errorf("the definition gives %d for %q, want %d", got, c.name, c.want)
		}
		if got := host.Find(l, c.name); got != c.want {
			t.Errorf("Find of %q = %d, want %d", c.name, got, c.want)
		}
	}
	for _, name := range []string{"", "a", "\x00"} {
		if got := host.Find(nil, name); got != -1 {
			t.Errorf("Find(nil, %q) = %d", name, got)
		}
		if got := host.Find([]api.Host{}, name); got != -1 {
			t.Errorf("Find of %q in an empty list = %d", name, got)
		}
	}
	if got := host.Find([]api.Host{{}, {Names: []string{"a", ""}}}, ""); got != 1 {
		t.Errorf("Find of an empty name = %d", got)
	}
}

// P18.3: the roots and rules of virtual hosts are not looked at.
func TestFindNamesOnly(t *testing.T) {
	l := []api.Host{
		{Root: []string{"a"}, Rules: []api.Rule{{Prefix: []string{"a"}, Realm: "a", Grants: []api.Grant{{User: "a"}}}}},
		{Names: []string{"a"}},
	}
	if got := host.Find(l, "a"); got != 1 {
		t.Errorf("Find = %d", got)
	}
}

// P18.3: each byte as a name, in a list of all of them, and after other bytes.
func TestFindBytes(t *testing.T) {
	var l, long []api.Host
	eachByte(func(c string) {
		l = append(l, api.Host{Names: []string{c}})
		long = append(long, api.Host{Names: []string{"other", "x" + c + "y"}})
	})
	for n := range 256 {
		want := n
		if 'a' <= n && n <= 'z' {
			// The capital letter stands before it.
			want = n - 32
		}
		c := string([]byte{byte(n)})
		if got := host.Find(l, c); got != want {
			t.Errorf("Find of %q = %d, want %d", c, got, want)
		}
		if got := host.Find(long, "X"+c+"y"); got != want {
			t.Errorf("Find of %q = %d, want %d", "X"+c+"y", got, want)
		}
	}
}

// P18.3: all short lists of virtual hosts with few names.
func TestFindAllLists(t *testing.T) {
	eachList([]string{"", "a", "A", "b", "b a", "c B", "a a"}, 4, func(list []string) {
		l := named(list...)
		for _, name := range []string{"", "a", "A", "b", "B", "c", "d", "b a"} {
			if got, want := host.Find(l, name), findOf(l, name); got != want {
				t.Fatalf("Find(%q, %q) = %d, want %d", list, name, got, want)
			}
		}
	})
}

// checkChoose checks Choose; at is the offset of its error, or right.
func checkChoose(t *testing.T, l []api.Host, to target.Target, field string, has bool, want, at int) {
	t.Helper()
	got, err := host.Choose(l, to, field, has)
	if got != want {
		t.Fatalf("Choose(%d hosts, {%d %.200q}, %.200q, %t) = %d, %v, want %d", len(l), to.Kind, to.Host, field, has, got, err, want)
	}
	if at == right {
		if err != nil {
			t.Fatalf("Choose({%d %.200q}, %.200q, %t): error %v", to.Kind, to.Host, field, has, err)
		}
		return
	}
	if err == nil || err.Error() != "host: status 400" || errors.Unwrap(err) != error(api.Fault{Status: 400, At: at}) || !errors.Is(err, api.BadRequest) {
		t.Fatalf("Choose({%d %.200q}, %.200q, %t): error %#v, want one at %d", to.Kind, to.Host, field, has, err, at)
	}
}

// absolute returns a target of the form Absolute.
func absolute(text string) target.Target {
	return target.Target{Kind: 2, Host: text, Path: segs.Path{Dir: true}}
}

// P18.4: the indices and offsets are written out.
func TestChoose(t *testing.T) {
	l := named("a a.example", "B", "[::1] b", "80")
	origin := target.Target{Kind: 1, Path: segs.Path{Segs: []string{"b"}}}
	asterisk := target.Target{Kind: 3}
	for _, c := range []struct {
		t        target.Target
		field    string
		has      bool
		want, at int
	}{
		{origin, "a", true, 0, right},
		{origin, "A.Example:080", true, 0, right},
		{origin, "b", true, 1, right},
		{origin, "b:", true, 1, right},
		{origin, "b:65535", true, 1, right},
		{origin, "[::1]", true, 2, right},
		{origin, "[::1]:80", true, 2, right},
		{origin, "80", true, 3, right},
		{origin, "80:81", true, 3, right},
		{origin, "c", true, -1, right},
		{origin, "c:80", true, -1, right},
		{origin, "a:a", true, -1, 2},
		{origin, "a:65536", true, -1, 2},
		{origin, "[::1]:b", true, -1, 6},
		{origin, "c:b", true, -1, 2},
		{origin, "", true, -1, 0},
		{origin, "a, b", true, -1, 0},
		{origin, ":80", true, -1, 0},
		{origin, "\x00", true, -1, 0},
		{origin, "", false, 0, right},
		{origin, "b", false, 0, right},
		{origin, "c", false, 0, right},
		{origin, "a:b", false, 0, right},
		{origin, " ", false, 0, right},

		{asterisk, "b", true, 1, right},
		{asterisk, "c", true, -1, right},
		{asterisk, "b:b", true, -1, 2},
		{asterisk, "", true, -1, 0},
		{asterisk, "", false, 0, right},
		{asterisk, "b", false, 0, right},

		{absolute("b"), "a", true, 1, right},
		{absolute("B:1"), "a", true, 1, right},
		{absolute("b"), "c", true, 1, right},
		{absolute("b"), "a:b", true, 1, right},
		{absolute("b"), "", true, 1, right},
		{absolute("b"), "", false, 1, right},
		{absolute("b"), "a", false, 1, right},
		{absolute("[::1]:80"), "", false, 2, right},
		{absolute("c"), "a", true, -1, right},
		{absolute("c"), "a", false, -1, right},
		{absolute("c"), "", false, -1, right},
		{absolute("c"), " ", true, -1, right},
		{absolute("user@a"), "a", true, -1, 0},
		{absolute("user@a"), "", false, -1, 0},
		{absolute("a:b"), "a", true, -1, 2},
		{absolute("a:b"), "a", false, -1, 2},
		{absolute("a:b"), " ", true, -1, 2},
		{absolute("[::1]80"), "a:b", true, -1, 0},
		{absolute(""), "a", true, -1, 0},
		{absolute(""), "", false, -1, 0},
	} {
		checkChoose(t, l, c.t, c.field, c.has, c.want, c.at)
		// In an empty list there is none, but the errors are the same.
		checkChoose(t, nil, c.t, c.field, c.has, -1, c.at)
	}
}

// P18.4: other targets than those with the Kind Absolute have no host, whatever the other fields are.
func TestChooseKinds(t *testing.T) {
	l := named("a", "b", "c")
	for _, kind := range []int{math.MinInt, -2, -1, 0, 1, 3, 4, 6, 1 << 32, 1<<32 + 2, math.MaxInt} {
		for _, text := range []string{"c", "a:b", "", "d"} {
			to := target.Target{Kind: kind, Host: text, Query: "c", HasQuery: true, Path: segs.Path{Segs: []string{"c"}}}
			checkChoose(t, l, to, "b", true, 1, right)
			checkChoose(t, l, to, "b", false, 0, right)
			checkChoose(t, l, to, "d", true, -1, right)
			checkChoose(t, l, to, "b:b", true, -1, 2)
			checkChoose(t, nil, to, "b", false, -1, right)
		}
	}
}

// P18.4: the first virtual host needs no names.
func TestChooseFirst(t *testing.T) {
	for _, l := range [][]api.Host{named(""), named("a"), named("", "a"), {{}}, {{}, {}, {}}} {
		checkChoose(t, l, target.Target{Kind: 1}, "a", false, 0, right)
	}
	for _, l := range [][]api.Host{nil, {}} {
		checkChoose(t, l, target.Target{Kind: 1}, "a", false, -1, right)
		checkChoose(t, l, target.Target{Kind: 1}, "a", true, -1, right)
		checkChoose(t, l, absolute("a"), "a", true, -1, right)
	}
}

// chooseOf returns what Choose returns by the definition: the index, and the offset of the error.
func chooseOf(l []api.Host, to target.Target, field string, has bool) (int, int) {
	if to.Kind == 2 {
		field, has = to.Host, true
	}
	if !has {
		return min(0, len(l)-1), right
	}
	h, at := parseOf(field)
	if at != right {
		return -1, at
	}
	return findOf(l, h.Name), right
}

// P18.4: all combinations of some targets and fields, with all short lists of few names.
func TestChooseAll(t *testing.T) {
	texts := []string{"", "a", "A:", "b:80", "B:080", "c", "[::A]", "[::a]:1", "a:b", "b:65536", "b c", "[::a", ":1"}
	eachList([]string{"", "a", "b A", "B", "[::a]"}, 3, func(list []string) {
		l := named(list...)
		for _, kind := range []int{0, 1, 2, 3} {
			for _, text := range texts {
				for _, field := range texts {
					for _, has := range []bool{false, true} {
						to := target.Target{Kind: kind, Host: text}
						want, at := chooseOf(l, to, field, has)
						checkChoose(t, l, to, field, has, want, at)
					}
				}
			}
		}
	})
}

// P18.4: targets that were parsed.
func TestChooseParsed(t *testing.T) {
	l := named("a", "b.example", "[::1]")
	for _, c := range []struct {
		s        string
		want, at int
	}{
		{"/b.example", 0, right},
		{"*", 0, right},
		{"//b.example/", 0, right},
		{"http://a", 0, right},
		{"HTTP://B.Example:080/a?x", 1, right},
		{"http://[::1]:80?x", 2, right},
		{"http://c/", -1, right},
		{"http://a:b/", -1, 2},
		{"http://b.example:99999/", -1, 10},
		{"http://user:80@a/", -1, 5},
		{"http://a%2e/", -1, 0},
		{"http://http://a", -1, right},
	} {
		to, err := target.Parse(c.s)
		if err != nil {
			t.Fatal(err)
		}
		checkChoose(t, l, to, "a", true, c.want, c.at)
	}
}

// cases returns a text with its letters in some cases.
func cases(s string) []string {
	mixed := []byte(strings.ToLower(s))
	for i := 0; i < len(mixed); i += 2 {
		mixed[i] = strings.ToUpper(s)[i]
	}
	return []string{s, strings.ToLower(s), strings.ToUpper(s), string(mixed)}
}

// P18.5: a choice depends neither on the port nor on the case of letters.
func TestChoiceStays(t *testing.T) {
	for i, name := range []string{"a.example", "b-_9", "[::fF]", "c"} {
		for _, own := range cases(name) {
			l := named("x", own, "y z")
			if i == 3 {
				l = named("x", "y")
			}
			want := findOf(l, name)
			for _, text := range cases(name) {
				for _, port := range []string{"", ":", ":0", ":1", ":80", ":00443", ":65535"} {
					checkChoose(t, l, target.Target{Kind: 1}, text+port, true, want, right)
					checkChoose(t, l, absolute(text+port), "x", true, want, right)
				}
				if got := host.Find(l, text); got != want {
					t.Errorf("Find(%q) = %d, want %d", text, got, want)
				}
			}
		}
	}
}

// P18.1 to P18.4: long texts and lists.
func TestLong(t *testing.T) {
	const n = 1 << 20
	long := strings.Repeat("A", n)
	small := strings.Repeat("a", n)
	for _, c := range []struct {
		s    string
		want host.Host
		at   int
	}{
		{long, host.Host{Name: small, Port: -1}, right},
		{long + ":80", host.Host{Name: small, Port: 80}, right},
		{"[" + long + "]:", host.Host{Name: "[" + small + "]", Port: -1}, right},
		{"[" + strings.Repeat(":", n) + "]:1", host.Host{Name: "[" + strings.Repeat(":", n) + "]", Port: 1}, right},
		{long + ":" + strings.Repeat("0", n), host.Host{}, n + 1},
		{long + strings.Repeat(":", n), host.Host{}, n + 1},
		{"[" + long + "]:b", host.Host{}, n + 3},
		{long + " ", host.Host{}, 0},
		{"[" + long, host.Host{}, 0},
		{strings.Repeat("[", n), host.Host{}, 0},
		{strings.Repeat("[", n) + strings.Repeat("]", n), host.Host{}, 0},
		{strings.Repeat("[1]", n), host.Host{}, 0},
		{strings.Repeat(":", n), host.Host{}, 0},
	} {
		checkParse(t, c.s, c.want, c.at)
		l := []api.Host{{Names: []string{long[1:]}}, {Names: []string{"b", c.want.Name}}}
		want := 1
		if c.at != right {
			want = -1
		}
		checkChoose(t, l, target.Target{}, c.s, true, want, c.at)
		checkChoose(t, l, absolute(c.s), "b", true, want, c.at)
	}
	var l []api.Host
	for i := range 1 << 12 {
		l = append(l, api.Host{Names: []string{fmt.Sprint("x", i), fmt.Sprint("y", i)}})
	}
	for i := range l {
		checkChoose(t, l, target.Target{}, fmt.Sprint("Y", i, ":80"), true, i, right)
	}
	checkChoose(t, l, target.Target{}, "y", true, -1, right)
}

// P18.1 to P18.5: random texts.
func TestRandom(t *testing.T) {
	random := rand.New(rand.NewSource(18))
	pieces := []string{"a", "B", "7", ".", "-", "_", "example", "[", "]", ":", ":", "::", "1", "f", "80", "65535"}
	wrong := []string{" ", "%", "@", "/", "\\", "\xff", "\r\n", "\x00", "g", "65536"}
	for range 100000 {
		var list []string
		for range random.Intn(8) {
			list = append(list, pieces[random.Intn(len(pieces))])
		}
		for range random.Intn(2) {
			list = slices.Insert(list, random.Intn(len(list)+1), wrong[random.Intn(len(wrong))])
		}
		text := strings.Join(list, "")
		l := named("a", "example B", "a7", "[::1]", text)
		for _, s := range []string{text, "[" + text + "]", text + ":80", "[::" + text + "]:" + text} {
			check(t, s)
			want, at := chooseOf(l, absolute(s), "a", true)
			checkChoose(t, l, absolute(s), "a", true, want, at)
			checkChoose(t, l, target.Target{}, s, true, want, at)
			if got, want := host.Find(l, s), findOf(l, s); got != want {
				t.Fatalf("Find(%q) = %d, want %d", s, got, want)
			}
		}
	}
}

// Arguments stay as they are, also behind the ends of slices.
func TestArgumentsStay(t *testing.T) {
	names := []string{"A", "B", "C", "Behind"}
	l := []api.Host{{Names: names[:1]}, {Names: names[1:3], Root: []string{"R"}}, {Names: []string{"Behind"}}}
	path := []string{"X", "Y"}
	to := target.Target{Kind: 2, Host: "C:80", Path: segs.Path{Segs: path[:1]}}
	checkChoose(t, l[:2], to, "A", true, 1, right)
	checkChoose(t, l[:2], target.Target{}, "behind", true, -1, right)
	checkChoose(t, l[:2], target.Target{}, "behind", false, 0, right)
	if got := host.Find(l[:2], "behind"); got != -1 {
		t.Errorf("Find = %d", got)
	}
	if !slices.Equal(names, []string{"A", "B", "C", "Behind"}) || !slices.Equal(path, []string{"X", "Y"}) {
		t.Errorf("%q, %q", names, path)
	}
	for i, want := range []string{"A", "B", "Behind"} {
		if l[i].Names[0] != want {
			t.Errorf("%q", l[i].Names)
		}
	}
	if len(l[0].Names) != 1 || len(l[1].Names) != 2 || !slices.Equal(l[1].Root, []string{"R"}) {
		t.Errorf("%v", l)
	}
}

// The functions may be called concurrently.
func TestConcurrent(t *testing.T) {
	l := named("x", "[::a] a.example")
	var group sync.WaitGroup
	for range 8 {
		group.Go(func() {
			for range 200 {
				if h, err := host.Parse("A.Example:080"); err != nil || host.Text(h) != "a.example:80" {
					t.Error(h, err)
				}
				if _, err := host.Parse("a:b"); err != error(api.Fault{Status: 400, At: 2}) {
					t.Error(err)
				}
				if n, err := host.Choose(l, absolute("[::A]:1"), "x", true); n != 1 || err != nil || host.Find(l, "A.EXAMPLE") != 1 {
					t.Error(n, err)
				}
			}
		})
	}
	group.Wait()
}
