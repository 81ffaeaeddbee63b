package config_test

import (
	"errors"
	"fmt"
	"math"
	"math/rand"
	"reflect"
	"regexp"
	"slices"
	"strconv"
	"strings"
	"sync"
	"testing"

	"doorkeeper/api"
	"doorkeeper/config"
	"doorkeeper/digest"
	"doorkeeper/fault"
)

// The parts of right configurations.
var (
	plain  = regexp.MustCompile(`(?s)\A[^/\\\x00]+\z`)
	text   = regexp.MustCompile(`\A[^\x00-\x08\x0a-\x1f\x7f]*\z`)
	hash   = regexp.MustCompile(`\A[0-9a-f]{64}\z`)
	server = regexp.MustCompile(`\A([a-z0-9._-]+|\[[0-9a-f:.]+\])\z`)
)

// right is the name of the error of a right configuration.
const right = ""

// names are the names of the errors in order.
var names = []string{"limits", "index", "users", "hosts", "roots", "rules", "grants"}

// latin returns a text with a rune for each byte, so that regular expressions see bytes.
func latin(s string) string {
	var runes []rune
	for i := range len(s) {
		runes = append(runes, rune(s[i]))
	}
	return string(runes)
}

func matches(r *regexp.Regexp, s string) bool { return r.MatchString(latin(s)) }

func plainOf(s string) bool { return s != "." && s != ".." && matches(plain, s) }

// allPlain reports whether all segments of a path are plain.
func allPlain(path []string) bool {
	return !slices.ContainsFunc(path, func(s string) bool { return !plainOf(s) })
}

// begins reports whether a path is a beginning of another.
func begins(path, with []string) bool {
	return len(with) <= len(path) && slices.Equal(path[:len(with)], with)
}

// pair reports whether two elements at different places are related.
func pair[T any](l []T, related func(a, b T) bool) bool {
	for i, a := range l {
		for j, b := range l {
			if i != j && related(a, b) {
				return true
			}
		}
	}
	return false
}

// equal reports whether two elements of a list are equal.
func equal(l []string) bool {
	return pair(l, func(a, b string) bool { return a == b })
}

// definitions tells for each error whether it applies, by the definition.
var definitions = []func(c api.Config) bool{
	func(c api.Config) bool {
		l := c.Limits
		return min(l.Line, l.Head, l.Fields, l.Body) < 0 || max(l.Line, l.Head, l.Fields, l.Body) > 1073741824 || l.Line < 14
	},
	func(c api.Config) bool { return !plainOf(c.Index) },
	func(c api.Config) bool {
		var l []string
		for _, u := range c.Users {
			if u.Name == "" || u.Name == "*" || strings.Contains(u.Name, ":") || !matches(text, u.Name+u.Salt) || !matches(hash, u.Hash) {
				return true
			}
			l = append(l, u.Name)
		}
		return equal(l)
	},
	func(c api.Config) bool {
		var l []string
		for _, h := range c.Hosts {
			if len(h.Names) == 0 || slices.ContainsFunc(h.Names, func(s string) bool { return !matches(server, s) }) {
				return true
			}
			l = append(l, h.Names...)
		}
		return len(c.Hosts) == 0 || equal(l)
	},
	func(c api.Config) bool {
		return slices.ContainsFunc(c.Hosts, func(h api.Host) bool { return !allPlain(h.Root) }) ||
			pair(c.Hosts, func(a, b api.Host) bool { return begins(a.Root, b.Root) })
	},
	func(c api.Config) bool { return slices.ContainsFunc(c.Hosts, wrongRules) },
	func(c api.Config) bool {
		return slices.ContainsFunc(c.Hosts, func(h api.Host) bool {
			return slices.ContainsFunc(h.Rules, func(r api.Rule) bool { return wrongGrants(c, r) })
		})
	},
}

func wrongRules(h api.Host) bool {
	empty := false
	for _, r := range h.Rules {
		empty = empty || len(r.Prefix) == 0
		if !allPlain(r.Prefix) || !matches(text, r.Realm) {
			return true
		}
	}
	return !empty || pair(h.Rules, func(a, b api.Rule) bool { return slices.Equal(a.Prefix, b.Prefix) })
}

func wrongGrants(c api.Config, r api.Rule) bool {
	var l []string
	for _, g := range r.Grants {
		known := slices.ContainsFunc(c.Users, func(u api.User) bool { return u.Name == g.User })
		if g.User != "" && g.User != "*" && !known {
			return true
		}
		l = append(l, g.User)
	}
	return equal(l)
}

// errorOf returns the name of the error of a configuration by the definition.
func errorOf(c api.Config) string {
	for i, applies := range definitions {
		if applies(c) {
			return names[i]
		}
	}
	return right
}

// show returns the beginning of the text of a configuration.
func show(c api.Config) string { return fmt.Sprintf("%.1000s", fmt.Sprintf("%#v", c)) }

// checkIs checks that Check returns the error with a name, or none.
func checkIs(t *testing.T, c api.Config, want string) {
	t.Helper()
	err := config.Check(c)
	if want == right {
		if err != nil {
			t.Fatalf("Check = %v for %s", err, show(c))
		}
		return
	}
	if err == nil || err.Error() != want+": status 400" {
		t.Fatalf("Check = %v, want %q for %s", err, want, show(c))
	}
	var offset api.Fault
	if errors.Unwrap(err) != error(api.BadRequest) || errors.As(err, &offset) {
		t.Fatalf("Check = %#v, which wraps %#v", err, errors.Unwrap(err))
	}
}

// check checks Check against the definition.
func check(t *testing.T, c api.Config) {
	t.Helper()
	checkIs(t, c, errorOf(c))
}

// checkWritten checks that Check returns what is written out, and that the definition says the same.
func checkWritten(t *testing.T, c api.Config, want string) {
	t.Helper()
	checkIs(t, c, want)
	if got := errorOf(c); got != want {
		t.Fatalf("the definition: %q, want %q for %s", got, want, show(c))
	}
}

// user returns a right user with a name.
func user(name string) api.User {
	return api.User{Name: name, Salt: "salt", Hash: digest.Salted("salt", name, "password")}
}

// path returns the path whose segments a text has between slashes.
func path(s string) []string {
	if s == "" {
		return nil
	}
	return strings.Split(s, "/")
}

// rule returns a rule for the prefix of a text, with grants for users.
func rule(prefix string, users ...string) api.Rule {
	r := api.Rule{Prefix: path(prefix), Realm: "realm"}
	for _, u := range users {
		r.Grants = append(r.Grants, api.Grant{User: u, Get: true})
	}
	return r
}

// hostOf returns a virtual host with the root of a text, with the names that another has between spaces, and with rules.
func hostOf(root, names string, rules ...api.Rule) api.Host {
	return api.Host{Names: strings.Fields(names), Root: path(root), Rules: rules}
}

// with returns a configuration that is right but for its virtual hosts.
func with(hosts ...api.Host) api.Config {
	return api.Config{
		Hosts:  hosts,
		Users:  []api.User{user("u"), user("v w")},
		Index:  "index.html",
		Limits: api.Limits{Line: 8000, Head: 64000, Fields: 100, Body: 1 << 20},
	}
}

// good returns a right configuration.
func good() api.Config {
	return with(
		hostOf("a", "a.example www.a.example", rule("", "", "u"), rule("x/y", "*", "u", "v w"), api.Rule{Prefix: []string{"x"}, Hide: true}),
		hostOf("b/c", "b [::1]", rule("x", "v w"), rule("")),
	)
}

// small returns a right configuration with one virtual host that has one rule.
func small() api.Config { return with(hostOf("", "h", rule(""))) }

// eachList calls a function for all lists of up to n of some elements.
func eachList[T any](elements []T, n int, call func(list []T)) {
	var list []T
	var extend func()
	extend = func() {
		call(slices.Clone(list))
		if len(list) == n {
			return
		}
		for _, e := range elements {
			list = append(list, e)
			extend()
			list = list[:len(list)-1]
		}
	}
	extend()
}

// eachByte calls a function for texts that have each byte in each place of some texts.
func eachByte(texts []string, call func(s string)) {
	for _, s := range texts {
		for n := range 256 {
			c := string([]byte{byte(n)})
			for i := range len(s) + 1 {
				call(s[:i] + c + s[i:])
				if i < len(s) {
					call(s[:i] + c + s[i+1:])
				}
			}
		}
	}
}

// P20.1: the chapter's example, and other configurations.
func TestExample(t *testing.T) {
	checkWritten(t, good(), right)
	checkWritten(t, small(), right)
	checkWritten(t, with(), "hosts")
	if err := config.Check(with()); err == nil || err.Error() != "hosts: status 400" {
		t.Error(err)
	}
	if status, ok := fault.Status(config.Check(with())); status != 400 || !ok {
		t.Error(status, ok)
	}
	checkWritten(t, api.Config{}, "limits")
	c := small()
	c.Users = nil
	checkWritten(t, c, right)
	c.Limits = api.Limits{Line: 14}
	c.Index = "i"
	checkWritten(t, c, right)
}

// P20.2: the names are written out; they do not change with a result.
func TestParts(t *testing.T) {
	for range 3 {
		l := config.Parts()
		if !slices.Equal(l, []string{"limits", "index", "users", "hosts", "roots", "rules", "grants"}) {
			t.Fatalf("Parts = %q", l)
		}
		for i := range l[:cap(l)] {
			l[:cap(l)][i] = "changed"
		}
	}
	checkIs(t, with(), "hosts")
}

// P20.1: all limits around the ends of their ranges.
func TestLimits(t *testing.T) {
	const most = 1 << 30
	for _, c := range []struct {
		l    api.Limits
		want string
	}{
		{api.Limits{Line: 14}, right},
		{api.Limits{Line: most, Head: most, Fields: most, Body: most}, right},
		{api.Limits{Line: 15, Head: 1, Fields: 1, Body: 1}, right},
		{api.Limits{}, "limits"},
		{api.Limits{Line: 13, Head: 100, Fields: 10, Body: 10}, "limits"},
		{api.Limits{Line: -14, Head: 100, Fields: 10, Body: 10}, "limits"},
		{api.Limits{Line: most + 1}, "limits"},
		{api.Limits{Line: 14, Head: -1}, "limits"},
		{api.Limits{Line: 14, Head: most + 1}, "limits"},
		{api.Limits{Line: 14, Fields: -1}, "limits"},
		{api.Limits{Line: 14, Fields: most + 1}, "limits"},
		{api.Limits{Line: 14, Body: -1}, "limits"},
		{api.Limits{Line: 14, Body: most + 1}, "limits"},
		{api.Limits{Line: math.MaxInt, Head: math.MaxInt, Fields: math.MaxInt, Body: math.MaxInt}, "limits"},
		{api.Limits{Line: 14, Head: math.MinInt}, "limits"},
	} {
		config := small()
		config.Limits = c.l
		checkWritten(t, config, c.want)
	}
	eachList([]int{math.MinInt, -most, -14, -1, 0, 1, 13, 14, 15, most - 1, most, most + 1, 2 * most, math.MaxInt}, 4, func(l []int) {
		if len(l) == 4 {
			c := small()
			c.Limits = api.Limits{Line: l[0], Head: l[1], Fields: l[2], Body: l[3]}
			check(t, c)
		}
	})
}

// P20.1: the index is a plain segment.
func TestIndex(t *testing.T) {
	indexed := func(s string) api.Config {
		c := small()
		c.Index = s
		return c
	}
	for s, want := range map[string]string{
		"a": right, "index.html": right, "...": right, " ": right, "é": right, "\xff": right, "\r\n": right, "a:b": right, "*": right, "%2f": right,
		"": "index", ".": "index", "..": "index", "/": "index", "a/": "index", "/a": "index", "a/b": "index", "a\\b": "index", "\x00": "index", "a\x00": "index",
	} {
		checkWritten(t, indexed(s), want)
	}
	eachByte([]string{"", ".", "..", "ab"}, func(s string) { check(t, indexed(s)) })
}

// P20.1: users are written out.
func TestUsers(t *testing.T) {
	zeros := strings.Repeat("0", 64)
	for _, c := range []struct {
		users []api.User
		want  string
	}{
		{nil, right},
		{[]api.User{{Name: "a", Hash: zeros}}, right},
		{[]api.User{{Name: "a b\tc", Salt: " \t:*\"\\", Hash: zeros}}, right},
		{[]api.User{{Name: " ", Hash: zeros}, {Name: "\t", Hash: zeros}, {Name: "**", Hash: zeros}, {Name: "* ", Hash: zeros}}, right},
		{[]api.User{{Name: "\xff", Salt: "\x80", Hash: strings.Repeat("f", 64)}, {Name: "é", Hash: zeros}}, right},
		{[]api.User{user("a"), user("A"), user("a "), user("aa")}, right},
		{[]api.User{user("a"), {Name: "b", Salt: "salt", Hash: user("a").Hash}}, right},
		{[]api.User{user("")}, "users"},
		{[]api.User{user("*")}, "users"},
		{[]api.User{user(":")}, "users"},
		{[]api.User{user("a:b")}, "users"},
		{[]api.User{user("a:")}, "users"},
		{[]api.User{user("a\n")}, "users"},
		{[]api.User{user("\x00")}, "users"},
		{[]api.User{user("a\x7f")}, "users"},
		{[]api.User{user("a"), user("b"), user("")}, "users"},
		{[]api.User{user("a"), user("a")}, "users"},
		{[]api.User{user("a"), user("b"), user("c"), user("b")}, "users"},
		{[]api.User{user("a"), {Name: "a", Hash: zeros}}, "users"},
		{[]api.User{{Name: "a", Salt: "\r", Hash: zeros}}, "users"},
		{[]api.User{{Name: "a", Salt: "a\x00", Hash: zeros}}, "users"},
		{[]api.User{user("a"), {Name: "b", Salt: "\x7f", Hash: zeros}}, "users"},
		{[]api.User{{Name: "a"}}, "users"},
		{[]api.User{{Name: "a", Hash: zeros[1:]}}, "users"},
		{[]api.User{{Name: "a", Hash: zeros + "0"}}, "users"},
		{[]api.User{{Name: "a", Hash: zeros[1:] + "A"}}, "users"},
		{[]api.User{{Name: "a", Hash: zeros[1:] + "g"}}, "users"},
		{[]api.User{{Name: "a", Hash: zeros[1:] + " "}}, "users"},
		{[]api.User{user("a"), {Name: "b", Hash: strings.ToUpper(user("b").Hash)}}, "users"},
	} {
		config := small()
		config.Users = c.users
		checkWritten(t, config, c.want)
	}
}

// P20.1: each byte in each place of the texts of a user.
func TestUserBytes(t *testing.T) {
	checkUser := func(u api.User) {
		t.Helper()
		c := small()
		for _, c.Users = range [][]api.User{{u}, {user("first"), u}, {u, user("last")}} {
			check(t, c)
		}
	}
	a := user("a")
	eachByte([]string{"", "*", "ab"}, func(s string) {
		checkUser(api.User{Name: s, Salt: a.Salt, Hash: a.Hash})
		checkUser(api.User{Name: a.Name, Salt: s, Hash: a.Hash})
	})
	eachByte([]string{a.Hash}, func(s string) {
		checkUser(api.User{Name: a.Name, Salt: a.Salt, Hash: s})
	})
	for n := range 130 {
		checkUser(api.User{Name: a.Name, Hash: strings.Repeat("a", n)})
	}
}

// P20.1: virtual hosts and their names are written out.
func TestHosts(t *testing.T) {
	for _, c := range []struct {
		names []string // with spaces between those of a virtual host
		want  string
	}{
		{[]string{"a"}, right},
		{[]string{"a b", "c d", "e"}, right},
		{[]string{"a.example", "example", "a.example.", "a-example", "a_example", "127.0.0.1", "80", ".", "-"}, right},
		{[]string{"[::1]", "[::]", "[0:0:0:0:0:0:0:1]", "[fe80::a]", "[.]"}, right},
		{nil, "hosts"},
		{[]string{""}, "hosts"},
		{[]string{"a", ""}, "hosts"},
		{[]string{"", "a"}, "hosts"},
		{[]string{"a a"}, "hosts"},
		{[]string{"a", "a"}, "hosts"},
		{[]string{"a b", "c", "d b"}, "hosts"},
		{[]string{"[::1]", "b [::1]"}, "hosts"},
		{[]string{"A"}, "hosts"},
		{[]string{"a.Example"}, "hosts"},
		{[]string{"a b C"}, "hosts"},
		{[]string{"[::A]"}, "hosts"},
		{[]string{"a:"}, "hosts"},
		{[]string{"a:80"}, "hosts"},
		{[]string{"a:0"}, "hosts"},
		{[]string{"[::1]:"}, "hosts"},
		{[]string{"[::1]:80"}, "hosts"},
		{[]string{"::1"}, "hosts"},
		{[]string{"[]"}, "hosts"},
		{[]string{"[::1"}, "hosts"},
		{[]string{"[::g]"}, "hosts"},
		{[]string{"*"}, "hosts"},
		{[]string{"*.example"}, "hosts"},
		{[]string{"é"}, "hosts"},
		{[]string{"a/b"}, "hosts"},
		{[]string{"u@a"}, "hosts"},
		{[]string{"a b%20"}, "hosts"},
	} {
		var l []api.Host
		for i, s := range c.names {
			l = append(l, hostOf(fmt.Sprint("root", i), s, rule("")))
		}
		checkWritten(t, with(l...), c.want)
	}
	// An empty name is no host text, which Fields above leaves out.
	empty := small()
	empty.Hosts[0].Names = []string{""}
	checkWritten(t, empty, "hosts")
	empty.Hosts[0].Names = []string{"a", "", "b"}
	checkWritten(t, empty, "hosts")
}

// P20.1: each byte in each place of names, and all short lists of names of two virtual hosts.
func TestHostNames(t *testing.T) {
	eachByte([]string{"", "ab", "a.b-c", "[::1]", "[]", "a:80", "[::1]:80"}, func(s string) {
		for _, l := range [][]string{{s}, {"first", s}, {s, "last"}} {
			check(t, with(api.Host{Names: l, Rules: []api.Rule{rule("")}}))
			check(t, with(hostOf("r", "other", rule("")), api.Host{Names: l, Root: []string{"s"}, Rules: []api.Rule{rule("")}}))
		}
	})
	eachList([]string{"a", "b", "c", "A", "[::1]"}, 3, func(first []string) {
		eachList([]string{"a", "c", "d", ""}, 2, func(second []string) {
			hosts := []api.Host{{Names: first, Root: []string{"r"}, Rules: []api.Rule{rule("")}}, {Names: second, Root: []string{"s"}, Rules: []api.Rule{rule("")}}}
			check(t, with(hosts[:1]...))
			check(t, with(hosts...))
			check(t, with(hosts[1], hosts[0], hostOf("t", "e f", rule(""))))
		})
	})
}

// rooted returns a configuration whose virtual hosts have roots.
func rooted(roots ...[]string) api.Config {
	var l []api.Host
	for i, r := range roots {
		l = append(l, api.Host{Names: []string{strconv.Itoa(i)}, Root: r, Rules: []api.Rule{rule("")}})
	}
	return with(l...)
}

// P20.1: roots are written out.
func TestRoots(t *testing.T) {
	for _, c := range []struct {
		roots []string
		want  string
	}{
		{[]string{""}, right},
		{[]string{"a"}, right},
		{[]string{"a/b/c"}, right},
		{[]string{"a", "b", "c"}, right},
		{[]string{"a/b", "a/c", "b"}, right},
		{[]string{"a", "ab", "a b", "A", "..."}, right},
		{[]string{"a/b", "ab", "b/a"}, right},
		{[]string{"b", "a/b"}, right},
		{[]string{"a-/b", "a"}, right},
		{[]string{"a/a", "a/b/a", "b/a"}, right},
		{[]string{"", ""}, "roots"},
		{[]string{"", "a"}, "roots"},
		{[]string{"a", ""}, "roots"},
		{[]string{"a", "b", ""}, "roots"},
		{[]string{"a", "a"}, "roots"},
		{[]string{"a", "a/b"}, "roots"},
		{[]string{"a/b", "a"}, "roots"},
		{[]string{"a/b", "b", "a/b/c/d"}, "roots"},
		{[]string{"a/b/c/d", "a b", "a/b"}, "roots"},
		{[]string{"x", "a", "a-", "a!", "a\x01", "a/b"}, "roots"},
		{[]string{"x", "a", "a\x01/b", "a/\x01"}, "roots"},
		{[]string{"b", "a/b", "c", "a/b"}, "roots"},
		{[]string{"."}, "roots"},
		{[]string{"a/.."}, "roots"},
		{[]string{"a//b"}, "roots"},
		{[]string{"a/"}, "roots"},
		{[]string{"/a"}, "roots"},
		{[]string{"a\\b"}, "roots"},
		{[]string{"a", "b/\x00"}, "roots"},
		{[]string{"a", "b", "../c"}, "roots"},
	} {
		var l [][]string
		for _, s := range c.roots {
			l = append(l, path(s))
		}
		checkWritten(t, rooted(l...), c.want)
	}
	checkWritten(t, rooted([]string{""}), "roots")
	checkWritten(t, rooted([]string{"a/b"}), "roots")
	checkWritten(t, rooted([]string{"a"}, []string{"a/b"}), "roots")
	checkWritten(t, rooted([]string{}, []string{}), "roots")
}

// P20.1: each byte in each place of a segment of a root, and all short lists of roots.
func TestManyRoots(t *testing.T) {
	eachByte([]string{"", ".", "..", "ab"}, func(s string) {
		check(t, rooted([]string{s}))
		check(t, rooted([]string{"x", s}, []string{"y"}))
		check(t, rooted([]string{"y"}, []string{s, "x"}))
		check(t, rooted([]string{"a", "b"}, []string{"a" + s + "b"}))
		check(t, rooted([]string{"a"}, []string{s + "a"}, []string{"a", "a"}))
	})
	var paths [][]string
	eachList([]string{"a", "b", "a\x01"}, 3, func(l []string) { paths = append(paths, l) })
	count := 0
	eachList(paths, 2, func(l [][]string) { check(t, rooted(l...)) })
	eachList(paths[:20], 3, func(l [][]string) {
		if errorOf(rooted(l...)) == right {
			count++
		}
		check(t, rooted(l...))
	})
	if count < 1000 {
		t.Errorf("only %d right lists of roots", count)
	}
	random := rand.New(rand.NewSource(5))
	for range 5000 {
		var l [][]string
		for range 2 + random.Intn(8) {
			l = append(l, paths[1+random.Intn(len(paths)-1)])
		}
		check(t, rooted(l...))
	}
}

// P20.1: rules are written out.
func TestRules(t *testing.T) {
	for _, c := range []struct {
		rules []api.Rule
		want  string
	}{
		{[]api.Rule{rule("")}, right},
		{[]api.Rule{{}}, right},
		{[]api.Rule{{Prefix: []string{}, Hide: true}}, right},
		{[]api.Rule{rule(""), rule("a"), rule("a/b"), rule("b/a"), rule("ab"), rule("A"), rule("a b"), rule("...")}, right},
		{[]api.Rule{rule("a/b"), rule("a"), rule("")}, right},
		{[]api.Rule{{Realm: "a \"b\" \\ \t é\xff"}}, right},
		{[]api.Rule{{Realm: "x"}, {Prefix: []string{"a"}, Realm: "x"}}, right},
		{nil, "rules"},
		{[]api.Rule{rule("a")}, "rules"},
		{[]api.Rule{rule("a"), rule("b"), rule("a/b")}, "rules"},
		{[]api.Rule{rule(""), rule("")}, "rules"},
		{[]api.Rule{rule(""), {Prefix: []string{}, Hide: true}}, "rules"},
		{[]api.Rule{rule(""), rule("a"), rule("a")}, "rules"},
		{[]api.Rule{rule("a/b"), rule("b"), rule(""), rule("a/b", "u")}, "rules"},
		{[]api.Rule{rule(""), rule(".")}, "rules"},
		{[]api.Rule{rule(""), rule("a/../b")}, "rules"},
		{[]api.Rule{rule(""), rule("a/")}, "rules"},
		{[]api.Rule{rule(""), rule("/")}, "rules"},
		{[]api.Rule{rule(""), rule("a\\b")}, "rules"},
		{[]api.Rule{rule(""), rule("b"), rule("a\x00")}, "rules"},
		{[]api.Rule{{Prefix: []string{""}}}, "rules"},
		{[]api.Rule{rule(""), {Prefix: []string{""}}}, "rules"},
		{[]api.Rule{rule(""), {Prefix: []string{"a/b"}}}, "rules"},
		{[]api.Rule{{Realm: "\n"}}, "rules"},
		{[]api.Rule{{Realm: "a\x00"}}, "rules"},
		{[]api.Rule{{Realm: "\x7f"}}, "rules"},
		{[]api.Rule{rule(""), {Prefix: []string{"a"}, Realm: "a\r\nb"}}, "rules"},
	} {
		checkWritten(t, with(hostOf("r", "h", c.rules...)), c.want)
		// Each of several virtual hosts needs right rules of its own.
		other := hostOf("s", "i", rule(""), rule("a"))
		checkWritten(t, with(other, hostOf("r", "h", c.rules...)), c.want)
		checkWritten(t, with(hostOf("r", "h", c.rules...), other), c.want)
	}
}

// P20.1: each byte in each place of prefixes and realms, and all short lists of prefixes.
func TestManyRules(t *testing.T) {
	eachByte([]string{"", ".", "..", "ab"}, func(s string) {
		check(t, with(hostOf("", "h", rule(""), api.Rule{Prefix: []string{s}})))
		check(t, with(hostOf("", "h", api.Rule{Prefix: []string{s, "a"}}, rule(""), api.Rule{Prefix: []string{"a", s}})))
		check(t, with(hostOf("", "h", rule("a/b"), rule(""), api.Rule{Prefix: []string{"a" + s + "b"}})))
		check(t, with(hostOf("", "h", rule("a"), rule(""), api.Rule{Prefix: []string{s}, Realm: s})))
		check(t, with(hostOf("", "h", api.Rule{Realm: s})))
		check(t, with(hostOf("", "h", rule(""), api.Rule{Prefix: []string{"a"}, Realm: s}, rule("b"))))
	})
	var prefixes [][]string
	eachList([]string{"a", "b", ""}, 2, func(l []string) { prefixes = append(prefixes, l) })
	eachList(prefixes, 4, func(l [][]string) {
		var rules []api.Rule
		for i, p := range l {
			rules = append(rules, api.Rule{Prefix: p, Realm: strconv.Itoa(i)})
		}
		check(t, with(hostOf("r", "h", rules...)))
	})
}

// P20.1: the users of grants are written out.
func TestGrants(t *testing.T) {
	for _, c := range []struct {
		users []string
		want  string
	}{
		{nil, right},
		{[]string{""}, right},
		{[]string{"*"}, right},
		{[]string{"u"}, right},
		{[]string{"v w"}, right},
		{[]string{"v w", "*", "", "u"}, right},
		{[]string{"v"}, "grants"},
		{[]string{"U"}, "grants"},
		{[]string{"u "}, "grants"},
		{[]string{" "}, "grants"},
		{[]string{"**"}, "grants"},
		{[]string{"u", "", "x"}, "grants"},
		{[]string{"", ""}, "grants"},
		{[]string{"*", "*"}, "grants"},
		{[]string{"u", "u"}, "grants"},
		{[]string{"", "u", "*", "v w", "u"}, "grants"},
		{[]string{"x", "x"}, "grants"},
	} {
		checkWritten(t, with(hostOf("r", "h", rule("", c.users...))), c.want)
		checkWritten(t, with(hostOf("r", "h", rule("", "u"), rule("a", c.users...), rule("b", "u"))), c.want)
		checkWritten(t, with(hostOf("r", "h", rule("", "u")), hostOf("s", "i", rule("a"), rule("", c.users...))), c.want)
		// What is granted does not matter.
		config := with(hostOf("r", "h", rule("", c.users...)))
		for i := range config.Hosts[0].Rules[0].Grants {
			config.Hosts[0].Rules[0].Grants[i] = api.Grant{User: c.users[i], Get: i == 1, Head: i == 2}
		}
		checkWritten(t, config, c.want)
	}
	// Users of grants are those of the configuration.
	c := with(hostOf("r", "h", rule("", "u")))
	c.Users = []api.User{user("v w")}
	checkWritten(t, c, "grants")
	c.Users = nil
	checkWritten(t, c, "grants")
}

// P20.1: all short lists of users and of users of grants.
func TestManyGrants(t *testing.T) {
	eachList([]string{"a", "b", "*", ""}, 2, func(l []string) {
		var users []api.User
		for _, name := range l {
			users = append(users, user(name))
		}
		eachList([]string{"a", "b", "c", "*", ""}, 4, func(granted []string) {
			c := with(hostOf("r", "h", rule("", granted...)), hostOf("s", "i", rule("", "*"), rule("a", "")))
			c.Users = users
			check(t, c)
		})
	})
	eachByte([]string{"", "u", "v w"}, func(s string) {
		check(t, with(hostOf("r", "h", rule("", "u", s))))
	})
}

// breaks make one part of a configuration wrong each, and leave the others as they are.
var breaks = []func(c *api.Config){
	func(c *api.Config) { c.Limits.Body = -1 },
	func(c *api.Config) { c.Index = ".." },
	func(c *api.Config) { c.Users[1].Hash = "" },
	func(c *api.Config) { c.Hosts[1].Names[0] = "A" },
	func(c *api.Config) { c.Hosts[1].Root = c.Hosts[0].Root },
	func(c *api.Config) { c.Hosts[0].Rules[0].Realm = "\n" },
	func(c *api.Config) { c.Hosts[0].Rules[0].Grants[0].User = "x" },
}

// P20.1: of several errors, the first one is returned.
func TestOrder(t *testing.T) {
	for set := range 1 << len(breaks) {
		c, want := good(), right
		for i, wrong := range slices.Backward(breaks) {
			if set>>i&1 == 1 {
				wrong(&c)
				want = names[i]
			}
		}
		checkWritten(t, c, want)
	}
}

// P20.1: random configurations.
func TestRandom(t *testing.T) {
	random := rand.New(rand.NewSource(20))
	pick := func(often int, ordinary []string, others ...string) string {
		if random.Intn(often) == 0 {
			return others[random.Intn(len(others))]
		}
		return ordinary[random.Intn(len(ordinary))]
	}
	randomPath := func(n int) []string {
		var p []string
		for range random.Intn(n) {
			p = append(p, pick(100, []string{"a", "b", "c", "d", "é"}, "", "..", "a/b", "\\", "\x00"))
		}
		return p
	}
	known := []string{"u", "v", "w", "u v", "\xff"}
	hosts := []string{"a", "b", "c.example", "d", "[::1]", "e-f", "g", "h", "i_j", "k"}
	counts := map[string]int{}
	for range 60000 {
		c := with()
		c.Users = nil
		for range random.Intn(3) {
			u := user(pick(50, known, "", "*", "a:b", "\n"))
			u.Salt = pick(50, []string{"", "s", "é "}, "\r", "\x00")
			c.Users = append(c.Users, u)
		}
		for range 1 + random.Intn(2) {
			h := api.Host{Root: randomPath(4), Rules: []api.Rule{{}}}
			for range 1 + random.Intn(2) {
				h.Names = append(h.Names, pick(50, hosts, "", "A", "a:80", "[]"))
			}
			for range random.Intn(3) {
				h.Rules = append(h.Rules, api.Rule{Prefix: append(randomPath(3), pick(50, []string{"x", "y"}, "")), Realm: pick(50, []string{"", "r", "\""}, "\n")})
			}
			for i := range h.Rules {
				for range random.Intn(3) {
					h.Rules[i].Grants = append(h.Rules[i].Grants, api.Grant{User: pick(3, []string{"", "*"}, known...)})
				}
			}
			random.Shuffle(len(h.Rules), func(i, j int) { h.Rules[i], h.Rules[j] = h.Rules[j], h.Rules[i] })
			c.Hosts = append(c.Hosts, h)
		}
		counts[errorOf(c)]++
		check(t, c)
		if got := config.Copy(c); !same(got, c) {
			t.Fatalf("Copy = %s, want %s", show(got), show(c))
		}
	}
	for _, name := range append(names[2:], right) {
		if counts[name] < 1000 {
			t.Errorf("only %d configurations with the error %q", counts[name], name)
		}
	}
}

// P20.3: users are found by their names, in right and wrong configurations.
func TestUser(t *testing.T) {
	checkUser := func(c api.Config, name string, want api.User, found bool) {
		t.Helper()
		if got, ok := config.User(c, name); got != want || ok != found {
			t.Errorf("User(%q) = %q, %t, want %q, %t", name, got, ok, want, found)
		}
	}
	c := good()
	checkUser(c, "u", user("u"), true)
	checkUser(c, "v w", user("v w"), true)
	for _, name := range []string{"", "*", "U", "v", "w", "u ", " u", "uu", "v  w", "u\x00", "a", "realm"} {
		checkUser(c, name, api.User{}, false)
	}
	for _, name := range []string{"", "u", "*"} {
		checkUser(api.Config{}, name, api.User{}, false)
	}
	c = api.Config{Users: []api.User{{Name: "a", Salt: "1"}, {Name: "b", Salt: "2"}, {Name: "a", Salt: "3"}, {Salt: "4"}, {Name: "*", Hash: "5"}, {}, {Name: "b"}, {Name: "a:\n\x00", Hash: "x"}}}
	checkUser(c, "a", api.User{Name: "a", Salt: "1"}, true)
	checkUser(c, "b", api.User{Name: "b", Salt: "2"}, true)
	checkUser(c, "", api.User{Salt: "4"}, true)
	checkUser(c, "*", api.User{Name: "*", Hash: "5"}, true)
	checkUser(c, "a:\n\x00", api.User{Name: "a:\n\x00", Hash: "x"}, true)
	checkUser(c, "A", api.User{}, false)
	checkUser(c, "4", api.User{}, false)
	checkUser(api.Config{Users: []api.User{{}}}, "", api.User{}, true)
}

// P20.3: all short lists of users.
func TestUserAll(t *testing.T) {
	pieces := []string{"", "*", "a", "A", "aa", "b", "é", "\xff"}
	eachList(pieces, 4, func(l []string) {
		var c api.Config
		for i, name := range l {
			c.Users = append(c.Users, api.User{Name: name, Salt: strconv.Itoa(i), Hash: "h"})
		}
		for _, name := range pieces {
			var want api.User
			i := slices.Index(l, name)
			if i >= 0 {
				want = c.Users[i]
			}
			if got, ok := config.User(c, name); got != want || ok != (i >= 0) {
				t.Fatalf("User(%q) = %q, %t in %q", name, got, ok, l)
			}
		}
	})
}

// empties returns a configuration with nil in place of empty slices, which are equivalent.
func empties(c api.Config) api.Config {
	c.Users = append([]api.User(nil), c.Users...)
	c.Hosts = append([]api.Host(nil), c.Hosts...)
	for i := range c.Hosts {
		h := &c.Hosts[i]
		h.Names = append([]string(nil), h.Names...)
		h.Root = append([]string(nil), h.Root...)
		h.Rules = append([]api.Rule(nil), h.Rules...)
		for j := range h.Rules {
			h.Rules[j].Prefix = append([]string(nil), h.Rules[j].Prefix...)
			h.Rules[j].Grants = append([]api.Grant(nil), h.Rules[j].Grants...)
		}
	}
	return c
}

// same reports whether two configurations are the same.
func same(a, b api.Config) bool { return reflect.DeepEqual(empties(a), empties(b)) }

// full returns a slice with its unused capacity.
func full[T any](l []T) []T { return l[:cap(l)] }

// change puts another value into all elements of a slice and of its unused capacity.
func change[T any](l []T, value T) {
	for i := range full(l) {
		full(l)[i] = value
	}
}

// scribble changes all that can be changed in a configuration, also behind the ends of slices.
func scribble(c api.Config) {
	for _, h := range full(c.Hosts) {
		for _, r := range full(h.Rules) {
			change(r.Prefix, "scribbled")
			change(r.Grants, api.Grant{User: "scribbled", Get: true, Head: true})
		}
		change(h.Names, "scribbled")
		change(h.Root, "scribbled")
		change(h.Rules, api.Rule{Realm: "scribbled", Hide: true})
	}
	change(c.Hosts, api.Host{Names: []string{"scribbled"}})
	change(c.Users, api.User{Name: "scribbled"})
}

// spacious returns a configuration whose slices are beginnings of longer ones, some of them without elements.
func spacious() api.Config {
	c := good()
	c.Hosts[0].Rules = append(c.Hosts[0].Rules, api.Rule{Prefix: []string{"p", "q"}[:1:2], Grants: []api.Grant{{User: "u"}, {User: "behind"}}[:1]})[:4:4]
	c.Hosts[1].Names = append(c.Hosts[1].Names, "behind")[:2]
	c.Hosts[1].Root = append(c.Hosts[1].Root, "behind")[:2]
	c.Hosts = append(c.Hosts, api.Host{Names: []string{"behind"}[:0], Root: []string{"behind"}[:0], Rules: []api.Rule{rule("behind")}[:0]}, hostOf("behind", "behind", api.Rule{Prefix: []string{"behind"}[:0], Grants: []api.Grant{{User: "behind"}}[:0]}))[:3]
	c.Users = append(c.Users, user("behind"))[:2]
	return c
}

// P20.4: copies are the same.
func TestCopy(t *testing.T) {
	for _, c := range []api.Config{{}, with(), small(), good(), spacious(), rooted(nil, []string{"a"}), {Hosts: []api.Host{{}, {Rules: []api.Rule{{}, {Hide: true}}}}, Users: []api.User{{}}}, {Index: "\x00", Limits: api.Limits{Line: -1, Head: -2, Fields: -3, Body: -4}}} {
		got := config.Copy(c)
		if !same(got, c) {
			t.Errorf("Copy = %s, want %s", show(got), show(c))
		}
		if again := config.Copy(got); !same(again, c) {
			t.Errorf("Copy = %s, want %s", show(again), show(c))
		}
	}
	got := config.Copy(with(hostOf("a/b", "c d", api.Rule{Prefix: []string{"e", "f"}, Grants: []api.Grant{{User: "u", Get: true}, {User: "*", Head: true}}, Hide: true, Realm: "g"})))
	want := api.Host{Names: []string{"c", "d"}, Root: []string{"a", "b"}, Rules: []api.Rule{{Prefix: []string{"e", "f"}, Grants: []api.Grant{{User: "u", Get: true}, {User: "*", Head: true}}, Hide: true, Realm: "g"}}}
	if len(got.Hosts) != 1 || !reflect.DeepEqual(got.Hosts[0], want) || !slices.Equal(got.Users, []api.User{user("u"), user("v w")}) || got.Index != "index.html" || got.Limits != (api.Limits{Line: 8000, Head: 64000, Fields: 100, Body: 1 << 20}) {
		t.Errorf("Copy = %s", show(got))
	}
}

// P20.4: neither is changed with the other, nor are two copies.
func TestCopyStays(t *testing.T) {
	for _, make := range []func() api.Config{good, small, spacious} {
		c := make()
		first, second := config.Copy(c), config.Copy(c)
		scribble(first)
		if !same(c, make()) || !same(second, make()) {
			t.Errorf("after changing a copy: %s, %s", show(c), show(second))
		}
		scribble(c)
		if !same(second, make()) {
			t.Errorf("after changing what was copied: %s", show(second))
		}
	}
	// What is behind the ends of slices stays, too, and is not in the copy.
	c := spacious()
	scribble(config.Copy(c))
	if full(c.Users)[2] != user("behind") || full(c.Hosts)[3].Names[0] != "behind" || full(c.Hosts[1].Names)[2] != "behind" || full(c.Hosts[1].Root)[2] != "behind" {
		t.Errorf("%s", show(c))
	}
	if h := c.Hosts[2]; full(h.Names)[0] != "behind" || full(h.Root)[0] != "behind" || full(h.Rules)[0].Prefix[0] != "behind" {
		t.Errorf("%#v", h)
	}
	if r := c.Hosts[0].Rules[3]; full(r.Prefix)[1] != "q" || full(r.Grants)[1].User != "behind" {
		t.Errorf("%#v", r)
	}
}

// P20.4: no two slices of a copy share memory, although those of the argument do.
func TestCopyApart(t *testing.T) {
	texts := []string{"a", "b", "c"}
	grants := []api.Grant{{User: "u"}, {User: "*"}}
	h := api.Host{Names: texts, Root: texts[1:], Rules: []api.Rule{{Prefix: texts, Grants: grants}, {Prefix: texts[:1], Grants: grants}}}
	shared := api.Config{Hosts: []api.Host{h, h}}
	for i, x := range []struct {
		change func(h api.Host)
		set    func(h *api.Host)
	}{
		{func(h api.Host) { change(h.Names, "x") }, func(h *api.Host) { h.Names = []string{"x", "x", "x"} }},
		{func(h api.Host) { change(h.Root, "x") }, func(h *api.Host) { h.Root = []string{"x", "x"} }},
		{func(h api.Host) { change(h.Rules, api.Rule{}) }, func(h *api.Host) { h.Rules = []api.Rule{{}, {}} }},
		{func(h api.Host) { change(h.Rules[0].Prefix, "x") }, func(h *api.Host) { h.Rules[0].Prefix = []string{"x", "x", "x"} }},
		{func(h api.Host) { change(h.Rules[1].Prefix, "x") }, func(h *api.Host) { h.Rules[1].Prefix = []string{"x"} }},
		{func(h api.Host) { change(h.Rules[0].Grants, api.Grant{}) }, func(h *api.Host) { h.Rules[0].Grants = []api.Grant{{}, {}} }},
		{func(h api.Host) { change(h.Rules[1].Grants, api.Grant{}) }, func(h *api.Host) { h.Rules[1].Grants = []api.Grant{{}, {}} }},
	} {
		for j := range shared.Hosts {
			got, want := config.Copy(shared), config.Copy(shared)
			x.change(got.Hosts[j])
			x.set(&want.Hosts[j])
			if !same(got, want) {
				t.Errorf("after the change %d of the host %d: %s, want %s", i, j, show(got), show(want))
			}
		}
	}
}

// Arguments stay as they are, also behind the ends of slices.
func TestArgumentsStay(t *testing.T) {
	c, before := spacious(), spacious()
	// Sorted roots would be in another order.
	for _, x := range []*api.Config{&c, &before} {
		x.Hosts[2].Names = []string{"third"}
		x.Hosts[2].Root = []string{"a!", "b"}
		x.Hosts[2].Rules = []api.Rule{rule("z", "v w", "*", ""), rule("b"), rule(""), rule("a")}
		x.Hosts[0].Root = []string{"z"}
	}
	whole := func(c api.Config) api.Config {
		c.Hosts, c.Users = slices.Clone(full(c.Hosts)), full(c.Users)
		for i, h := range c.Hosts {
			c.Hosts[i].Names, c.Hosts[i].Root, c.Hosts[i].Rules = full(h.Names), full(h.Root), full(h.Rules)
		}
		return c
	}
	checkWritten(t, c, right)
	config.User(c, "v w")
	config.User(c, "behind")
	config.Copy(c)
	if got, want := whole(c), whole(before); !same(got, want) {
		t.Errorf("%s, want %s", show(got), show(want))
	}
}

// P20.1: many users, hosts, rules and grants.
func TestMany(t *testing.T) {
	const n = 1 << 15
	c := with(api.Host{Names: []string{"h"}, Root: []string{"r"}, Rules: []api.Rule{{}}})
	c.Users = nil
	h := &c.Hosts[0]
	for i := range n {
		text := strconv.Itoa(i)
		c.Users = append(c.Users, api.User{Name: text, Hash: strings.Repeat("0", 64)})
		h.Names = append(h.Names, text)
		h.Rules = append(h.Rules, api.Rule{Prefix: []string{"a", text}, Grants: []api.Grant{{User: text}}})
		h.Rules[0].Grants = append(h.Rules[0].Grants, api.Grant{User: text})
	}
	for i := range n {
		text := strconv.Itoa(i)
		c.Hosts = append(c.Hosts, api.Host{Names: []string{"x" + text}, Root: []string{"s", text}, Rules: []api.Rule{{}}})
	}
	checkIs(t, c, right)
	if !same(config.Copy(c), c) {
		t.Error("Copy")
	}
	last := len(c.Hosts) - 1
	for _, x := range []struct {
		name  string
		wrong func(c *api.Config)
	}{
		{"users", func(c *api.Config) { c.Users[n-1].Name = "0" }},
		{"hosts", func(c *api.Config) { c.Hosts[last].Names[0] = "77" }},
		{"roots", func(c *api.Config) { c.Hosts[last].Root = []string{"s", "77", "a"} }},
		{"roots", func(c *api.Config) { c.Hosts[last].Root = []string{"s"} }},
		{"roots", func(c *api.Config) { c.Hosts[last].Root = nil }},
		{"rules", func(c *api.Config) { c.Hosts[last].Rules = nil }},
		{"rules", func(c *api.Config) { c.Hosts[0].Rules[n].Prefix = []string{"a", "77"} }},
		{"grants", func(c *api.Config) { c.Hosts[0].Rules[0].Grants[n-1].User = "77" }},
		{"grants", func(c *api.Config) { c.Hosts[0].Rules[0].Grants[n-1].User = "x" }},
	} {
		changed := config.Copy(c)
		x.wrong(&changed)
		checkIs(t, changed, x.name)
	}
}

// P20.1: long paths and texts.
func TestLong(t *testing.T) {
	const n = 1 << 16
	deep := strings.Split(strings.Repeat("a", n), "")
	end := func(s string) []string { return append(slices.Clone(deep), s) }
	checkIs(t, rooted(deep), right)
	checkIs(t, rooted(end("a"), end("b"), end("ab")), right)
	checkIs(t, rooted(end("b"), end("a"), deep), "roots")
	checkIs(t, rooted(end("b"), end("a"), end("b")), "roots")
	checkIs(t, rooted(end("b"), end("..")), "roots")
	prefixes := func(l ...[]string) api.Config {
		h := api.Host{Names: []string{"h"}, Rules: []api.Rule{{}}}
		for _, p := range l {
			h.Rules = append(h.Rules, api.Rule{Prefix: p})
		}
		return with(h)
	}
	checkIs(t, prefixes(deep, end("a"), end("b"), deep[1:]), right)
	checkIs(t, prefixes(deep, end("a"), deep[1:], end("a")), "rules")
	checkIs(t, prefixes(deep, end("")), "rules")

	long := strings.Repeat("b", 1<<22)
	c := with(hostOf(long, long+" "+long+"c", api.Rule{Realm: long, Grants: []api.Grant{{User: long}, {User: long + "c"}}}, rule(long)), hostOf(long+"c", long+"d", rule("")))
	c.Users = []api.User{{Name: long, Salt: long, Hash: strings.Repeat("0", 64)}, {Name: long + "c", Hash: strings.Repeat("0", 64)}}
	c.Index = long
	checkIs(t, c, right)
	for _, x := range []struct {
		name  string
		wrong func(c *api.Config)
	}{
		{"index", func(c *api.Config) { c.Index += "/" }},
		{"users", func(c *api.Config) { c.Users[1].Name = long }},
		{"users", func(c *api.Config) { c.Users[0].Name += ":" }},
		{"users", func(c *api.Config) { c.Users[0].Salt += "\n" }},
		{"users", func(c *api.Config) { c.Users[0].Hash = long }},
		{"hosts", func(c *api.Config) { c.Hosts[1].Names[0] = long }},
		{"hosts", func(c *api.Config) { c.Hosts[1].Names[0] += ":1" }},
		{"roots", func(c *api.Config) { c.Hosts[1].Root[0] = long }},
		{"rules", func(c *api.Config) { c.Hosts[0].Rules[0].Realm += "\r" }},
		{"grants", func(c *api.Config) { c.Hosts[0].Rules[0].Grants[1].User = long }},
		{"grants", func(c *api.Config) { c.Hosts[0].Rules[0].Grants[1].User += "c" }},
	} {
		changed := config.Copy(c)
		x.wrong(&changed)
		checkIs(t, changed, x.name)
	}
}

// The functions may be called concurrently.
func TestConcurrent(t *testing.T) {
	c := good()
	var group sync.WaitGroup
	for range 8 {
		group.Go(func() {
			for range 200 {
				if err := config.Check(c); err != nil || len(config.Parts()) != 7 {
					t.Error(err)
				}
				if err := config.Check(with()); err == nil || err.Error() != "hosts: status 400" {
					t.Error(err)
				}
				if u, ok := config.User(c, "u"); u != user("u") || !ok || !same(config.Copy(c), good()) {
					t.Error(u, ok)
				}
			}
		})
	}
	group.Wait()
}
