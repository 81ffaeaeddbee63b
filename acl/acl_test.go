package acl_test

import (
	"fmt"
	"math/rand"
	"reflect"
	"slices"
	"strconv"
	"strings"
	"sync"
	"testing"

	"doorkeeper/acl"
	"doorkeeper/api"
)

// methods are all methods with a kind, and strings that are none.
var methods = []string{"GET", "HEAD", "OPTIONS", "POST", "PUT", "DELETE", "PATCH", "TRACE", "CONNECT", "", "get", "Head", "options", "GET ", " GET", "GETHEAD", "HEADER", "*", "G\x00ET", "\u0413ET"}

// principals are the anonymous one, names, and texts that are similar to them.
var principals = []string{"", "ann", "bob", "carl", "Ann", "an", "anna", "ann ", "*", "**", " ", "\x00", "\xff"}

// eachList calls a function for all lists of up to n elements of some pieces.
func eachList[T any](pieces []T, n int, call func(l []T)) {
	var list []T
	var extend func()
	extend = func() {
		call(slices.Clone(list))
		if len(list) == n {
			return
		}
		for _, p := range pieces {
			list = append(list, p)
			extend()
			list = list[:len(list)-1]
		}
	}
	extend()
}

// path returns the segments that a text has between spaces.
func path(text string) []string { return strings.Fields(text) }

// ruled returns rules with prefixes. Each rule differs from the others in all of its parts.
func ruled(prefixes ...[]string) []api.Rule {
	var l []api.Rule
	for i, p := range prefixes {
		text := strconv.Itoa(i)
		l = append(l, api.Rule{
			Prefix: p,
			Grants: []api.Grant{{User: "user " + text, Get: true}, {User: "other " + text, Head: true}},
			Hide:   i%2 == 1,
			Realm:  "realm " + text,
		})
	}
	return l
}

// matchOf returns the index of what Match returns by the definition, or -1: it tries the longest beginning first.
func matchOf(l []api.Rule, path []string) int {
	for n := len(path); n >= 0; n-- {
		for i, r := range l {
			if len(r.Prefix) == n && strings.Join(quoted(r.Prefix), " ") == strings.Join(quoted(path[:n]), " ") {
				return i
			}
		}
	}
	return -1
}

// quoted returns texts in quotation marks, so that they can be joined.
func quoted(l []string) []string {
	var texts []string
	for _, s := range l {
		texts = append(texts, strconv.Quote(s))
	}
	return texts
}

// same reports whether two rules are equal. Nil and empty slices are.
func same(a, b api.Rule) bool {
	return slices.Equal(a.Prefix, b.Prefix) && slices.Equal(a.Grants, b.Grants) && a.Hide == b.Hide && a.Realm == b.Realm
}

// checkMatch checks Match against an index of a rule, or -1.
func checkMatch(t *testing.T, l []api.Rule, path []string, index int) {
	t.Helper()
	want := api.Rule{}
	if index >= 0 {
		want = l[index]
	}
	if got := acl.Match(l, path); !same(got, want) {
		t.Fatalf("Match(%.500q, %.200q) = %.200q, want %.200q", fmt.Sprint(l), path, fmt.Sprint(got), fmt.Sprint(want))
	}
}

// P22.1: the rules of paths are written out.
func TestMatch(t *testing.T) {
	l := ruled(nil, path("a"), path("a b"), path("x y z"), path("x"), path("A"), path("ab c"), path("d d d"), path("d"), path("*"), path(".."), path("a b c d"))
	for _, c := range []struct {
		path  string
		index int
	}{
		// The chapter's example.
		{"a b c", 2},
		{"ab", 0},

		{"", 0},
		{"a", 1},
		{"a b", 2},
		{"a c", 1},
		{"a c b", 1},
		{"a bc", 1},
		{"a ab", 1},
		{"a b c d", 11},
		{"a b c d e", 11},
		{"a b d c", 2},
		{"a B", 1},
		{"b", 0},
		{"b a", 0},
		{"b a b", 0},
		{"c a b c", 0},
		{"a a b", 1},
		{"a/b", 0},
		{"a/ b", 0},
		{"/a b", 0},
		{"a/b c", 0},
		{"x", 4},
		{"x y", 4},
		{"x y z", 3},
		{"x y z x", 3},
		{"x z y", 4},
		{"x y y", 4},
		{"x y zz", 4},
		{"y z", 0},
		{"A", 5},
		{"A b", 5},
		{"ab c", 6},
		{"ab d", 0},
		{"abc", 0},
		{"d", 8},
		{"d d", 8},
		{"d d d", 7},
		{"d d d d", 7},
		{"d d e d", 8},
		{"*", 9},
		{"* a", 9},
		{"**", 0},
		{"..", 10},
		{". a", 0},
		{"a ..", 1},
		{"é", 0},
		{"\u0430", 0},
	} {
		checkMatch(t, l, path(c.path), c.index)
		checkMatch(t, slices.Concat(l[11:], l[:11]), path(c.path), (c.index+1)%12)
		// Without the rule for the empty prefix.
		checkMatch(t, l[1:], path(c.path), c.index-1)
	}
}

// P22.1: paths without a rule have a zero one.
func TestMatchNone(t *testing.T) {
	for _, l := range [][]api.Rule{
		nil,
		{},
		ruled(path("a")),
		ruled(path("a b"), path("c"), path("b c d e f")),
		ruled([]string{""}),
		ruled([]string{"b", ""}, []string{"", "b"}, []string{"", ""}),
	} {
		for _, p := range [][]string{nil, {}, {"b"}, {"b", "c", "d", "e"}, {"A"}, {"ab"}, {"a/b"}, {" a"}, {"a\x00"}} {
			checkMatch(t, l, p, -1)
		}
	}
}

// P22.1: the first one of several rules with the same prefix.
func TestMatchFirst(t *testing.T) {
	l := ruled(path("a"), nil, path("a b"), path("a"), path(""), path("a b"), path("a b"))
	checkMatch(t, l, path("a"), 0)
	checkMatch(t, l, path("a c"), 0)
	checkMatch(t, l, path(""), 1)
	checkMatch(t, l, path("b"), 1)
	checkMatch(t, l, path("a b"), 2)
	checkMatch(t, l, path("a b c"), 2)
	checkMatch(t, l[1:], path("a"), 2)
	checkMatch(t, l[3:], path("b"), 1)
	checkMatch(t, l[3:], path("a b"), 2)
	checkMatch(t, ruled(nil, nil, nil), path("a"), 0)

	equal := api.Rule{Prefix: path("a"), Grants: []api.Grant{{Get: true}}}
	hidden := api.Rule{Prefix: path("a"), Hide: true}
	if got := acl.Match([]api.Rule{equal, hidden, equal}, path("a")); !same(got, equal) {
		t.Errorf("%+v", got)
	}
	if got := acl.Match([]api.Rule{hidden, equal, hidden}, path("a")); !same(got, hidden) {
		t.Errorf("%+v", got)
	}
}

// P22.1: all short lists of rules with all short paths.
func TestMatchAll(t *testing.T) {
	var paths, prefixes [][]string
	eachList([]string{"a", "b", "ab", ""}, 4, func(l []string) { paths = append(paths, l) })
	eachList([]string{"a", "b"}, 2, func(l []string) { prefixes = append(prefixes, l) })
	prefixes = append(prefixes, []string{"ab"}, []string{""}, []string{"a", ""}, []string{"a", "b", "a"})
	counts := map[int]int{}
	eachList(prefixes, 3, func(l [][]string) {
		rules := ruled(l...)
		for _, p := range paths {
			index := matchOf(rules, p)
			counts[index]++
			checkMatch(t, rules, p, index)
		}
	})
	for index := -1; index < 3; index++ {
		if counts[index] < 1000 {
			t.Error(counts)
		}
	}
}

// P22.1: each byte in a segment, and in place of it.
func TestMatchBytes(t *testing.T) {
	for n := range 256 {
		c := string([]byte{byte(n)})
		for _, s := range []string{c, c + "b", "a" + c, "a" + c + "b", "b" + c + "a", "ab" + c, "ab"} {
			l := ruled(nil, []string{"ab"}, []string{s}, []string{"ab", s}, []string{s, "ab"}, []string{s, s, s})
			for _, p := range [][]string{{s}, {"ab"}, {s, "ab"}, {"ab", s}, {s, s}, {s, s, s, s}, {s + c}, {s + "/ab"}, {"ab/" + s}} {
				checkMatch(t, l, p, matchOf(l, p))
			}
		}
	}
}

// P22.1, P22.4: random rules and paths.
func TestMatchRandom(t *testing.T) {
	random := rand.New(rand.NewSource(221))
	some := func(n int) []string {
		var p []string
		for range random.Intn(n) {
			p = append(p, string(rune('a'+random.Intn(2))))
		}
		return p
	}
	for range 5000 {
		var prefixes [][]string
		for range random.Intn(12) {
			prefixes = append(prefixes, some(6))
		}
		l := ruled(prefixes...)
		for range 10 {
			p := some(9)
			checkMatch(t, l, p, matchOf(l, p))
		}
		checkOwn(t, l)
	}
}

// checkOwn checks that the first rule with each prefix is that of its own prefix.
func checkOwn(t *testing.T, l []api.Rule) {
	t.Helper()
	known := map[string]bool{}
	for i, r := range l {
		text := strings.Join(quoted(r.Prefix), " ")
		if !known[text] {
			checkMatch(t, l, r.Prefix, i)
			// Segments that no prefix has change nothing.
			checkMatch(t, l, append(slices.Clone(r.Prefix), "other"), i)
		}
		known[text] = true
	}
}

// P22.4: the rule of a path with a rule's own prefix is this rule, if prefixes are different.
func TestMatchOwn(t *testing.T) {
	prefixes := [][]string{nil, {"a"}, {"a", "b"}, {"b"}, {"a", "b", "c"}, {"b", "a"}, {"ab"}, {"a", "a"}, {""}, {"", ""}, {"a/b"}}
	random := rand.New(rand.NewSource(224))
	for range 300 {
		random.Shuffle(len(prefixes), func(i, j int) { prefixes[i], prefixes[j] = prefixes[j], prefixes[i] })
		n := random.Intn(len(prefixes) + 1)
		l := ruled(prefixes[:n]...)
		for i := range n {
			checkMatch(t, l, prefixes[i], i)
		}
		checkOwn(t, l)
	}
}

// P22.1: many rules, and long prefixes and segments.
func TestMatchLong(t *testing.T) {
	const n = 1 << 12
	long := make([]string, n)
	for i := range long {
		long[i] = strconv.Itoa(i % 10)
	}
	var l []api.Rule
	for i := range n {
		l = append(l, api.Rule{Prefix: long[:n-i], Realm: strconv.Itoa(i)})
	}
	checkMatch(t, l, long, 0)
	checkMatch(t, l, append(slices.Clone(long), long...), 0)
	checkMatch(t, l, long[:n-7], 7)
	checkMatch(t, l, append(slices.Clone(long[:n-7]), "x"), 7)
	checkMatch(t, l, long[:1], n-1)
	checkMatch(t, l, nil, -1)
	checkMatch(t, l, long[1:], -1)
	slices.Reverse(l)
	checkMatch(t, l, long, n-1)
	checkMatch(t, l, long[:7], 6)

	text := strings.Repeat("a", 1<<20)
	l = ruled(nil, []string{text}, []string{text + "a"}, []string{text, text})
	checkMatch(t, l, []string{text}, 1)
	checkMatch(t, l, []string{text + "a"}, 2)
	checkMatch(t, l, []string{text + "b"}, 0)
	checkMatch(t, l, []string{text[1:]}, 0)
	checkMatch(t, l, []string{text, text, text}, 3)
	checkMatch(t, l, []string{text, text + "a"}, 1)
}

// appliesOf returns what Applies returns by the definition.
func appliesOf(g api.Grant, principal string) bool {
	switch {
	case g.User == "":
		return true
	case principal == "":
		return false
	}
	return g.User == "*" || g.User == principal
}

// P22.1: users and principals are written out.
func TestApplies(t *testing.T) {
	for _, c := range []struct {
		user, principal string
		want            bool
	}{
		{"", "", true},
		{"", "ann", true},
		{"", "*", true},
		{"", " ", true},
		{"*", "", false},
		{"*", "ann", true},
		{"*", "bob", true},
		{"*", "*", true},
		{"*", " ", true},
		{"*", "\x00", true},
		{"ann", "", false},
		{"ann", "ann", true},
		{"ann", "bob", false},
		{"ann", "Ann", false},
		{"ann", "ANN", false},
		{"ann", "an", false},
		{"ann", "anna", false},
		{"ann", "ann ", false},
		{"ann", " ann", false},
		{"ann", "*", false},
		{"ann", "a*", false},
		{"Ann", "ann", false},
		{"a*", "ann", false},
		{"**", "ann", false},
		{"**", "", false},
		{"* ", "ann", false},
		{" ", "ann", false},
		{" ", "", false},
		{" ", " ", true},
		{"\x00", "", false},
		{"?", "a", false},
		{"k", "\u212a", false},
		{"é", "é", true},
		{"é", "e\u0301", false},
		{"\xff", "\xfe", false},
		{"ann,bob", "ann", false},
		{"ann bob", "bob", false},
	} {
		for _, g := range bits(c.user) {
			if got := acl.Applies(g, c.principal); got != c.want {
				t.Errorf("Applies(%+v, %q) = %t", g, c.principal, got)
			}
			if appliesOf(g, c.principal) != c.want {
				t.Errorf("the definition for %+v, %q", g, c.principal)
			}
		}
	}
}

// nothing returns a grant that permits nothing.
func nothing(user string) api.Grant { return api.Grant{User: user} }

// gets returns a grant of GET only.
func gets(user string) api.Grant { return api.Grant{User: user, Get: true} }

// heads returns a grant of HEAD only.
func heads(user string) api.Grant { return api.Grant{User: user, Head: true} }

// reads returns a grant of GET and HEAD.
func reads(user string) api.Grant { return api.Grant{User: user, Get: true, Head: true} }

// bits returns all grants of a user.
func bits(user string) []api.Grant {
	return []api.Grant{nothing(user), gets(user), heads(user), reads(user)}
}

// P22.1: all pairs of bytes, alone and in texts, and of short texts.
func TestAppliesBytes(t *testing.T) {
	check := func(user, principal string) {
		t.Helper()
		for _, g := range bits(user) {
			if got := acl.Applies(g, principal); got != appliesOf(g, principal) {
				t.Fatalf("Applies(%+q, %q) = %t", fmt.Sprint(g), principal, got)
			}
		}
	}
	for m := range 256 {
		c := string([]byte{byte(m)})
		for n := range 256 {
			d := string([]byte{byte(n)})
			check(c, d)
			check("a"+c, "a"+d)
			check(c+"a", d+"a")
			check("a"+c+"b", "a"+d+"b")
		}
		check("", c)
		check("*", c)
		check(c, "")
		check(c, "*")
	}
	var texts []string
	eachList([]string{"a", "A", "*", " ", "\x00"}, 3, func(l []string) { texts = append(texts, strings.Join(l, "")) })
	for _, user := range texts {
		for _, principal := range texts {
			check(user, principal)
		}
	}
	long := strings.Repeat("a", 1<<20)
	check(long, long)
	check(long, long+"a")
	check(long+"a", long)
	check("*", long)
	check(long, "*")
	check(strings.Repeat("*", 1<<20), long)
}

// grantedOf returns what Granted returns by the definition.
func grantedOf(r api.Rule, principal, method string) bool {
	if method == "OPTIONS" {
		return grantedOf(r, principal, "GET") || grantedOf(r, principal, "HEAD")
	}
	for _, g := range r.Grants {
		if appliesOf(g, principal) && (method == "GET" && g.Get || method == "HEAD" && g.Head) {
			return true
		}
	}
	return false
}

// methodsOf returns what Methods returns by the definition.
func methodsOf(r api.Rule, principal string) []string {
	var l []string
	for _, method := range []string{"GET", "HEAD", "OPTIONS"} {
		if grantedOf(r, principal, method) {
			l = append(l, method)
		}
	}
	return l
}

// checkGranted checks Granted for all methods, and Methods and Readable, against what is written out as methods between spaces.
func checkGranted(t *testing.T, r api.Rule, principal, want string) {
	t.Helper()
	l := strings.Fields(want)
	for _, method := range methods {
		if got := acl.Granted(r, principal, method); got != slices.Contains(l, method) {
			t.Fatalf("Granted(%.500q, %.100q, %q) = %t", fmt.Sprint(r), principal, method, got)
		}
	}
	if got := acl.Methods(r, principal); !slices.Equal(got, l) {
		t.Fatalf("Methods(%.500q, %.100q) = %q, want %q", fmt.Sprint(r), principal, got, l)
	}
	if got := acl.Readable([]api.Rule{r}, r.Prefix, principal); got != (want != "") {
		t.Fatalf("Readable(%.500q, %.100q) = %t", fmt.Sprint(r), principal, got)
	}
}

// check checks what checkGranted does against the definition.
func check(t *testing.T, r api.Rule, principal string) {
	t.Helper()
	checkGranted(t, r, principal, strings.Join(methodsOf(r, principal), " "))
}

// P22.2: what is granted is written out.
func TestGranted(t *testing.T) {
	const get, head, both = "GET OPTIONS", "HEAD OPTIONS", "GET HEAD OPTIONS"
	for _, c := range []struct {
		grants []api.Grant
		// What is granted to the anonymous principal, to ann, to bob, and to *.
		anonymous, ann, bob, star string
	}{
		{nil, "", "", "", ""},
		{[]api.Grant{nothing("")}, "", "", "", ""},
		{[]api.Grant{nothing("*")}, "", "", "", ""},
		{[]api.Grant{nothing("ann")}, "", "", "", ""},
		{[]api.Grant{gets("")}, get, get, get, get},
		{[]api.Grant{heads("")}, head, head, head, head},
		{[]api.Grant{reads("")}, both, both, both, both},
		{[]api.Grant{gets("*")}, "", get, get, get},
		{[]api.Grant{heads("*")}, "", head, head, head},
		{[]api.Grant{reads("*")}, "", both, both, both},
		{[]api.Grant{gets("ann")}, "", get, "", ""},
		{[]api.Grant{heads("ann")}, "", head, "", ""},
		{[]api.Grant{reads("ann")}, "", both, "", ""},
		{[]api.Grant{reads("carl")}, "", "", "", ""},
		// Several grants are combined.
		{[]api.Grant{gets(""), heads("")}, both, both, both, both},
		{[]api.Grant{heads(""), gets("")}, both, both, both, both},
		{[]api.Grant{gets(""), heads("ann")}, get, both, get, get},
		{[]api.Grant{heads("ann"), gets("")}, get, both, get, get},
		{[]api.Grant{gets(""), heads("*")}, get, both, both, both},
		{[]api.Grant{gets("*"), heads("ann")}, "", both, get, get},
		{[]api.Grant{gets("ann"), heads("bob")}, "", get, head, ""},
		{[]api.Grant{reads("bob"), gets("ann"), heads("ann")}, "", both, both, ""},
		// A grant that permits nothing takes nothing away.
		{[]api.Grant{nothing("ann"), gets("")}, get, get, get, get},
		{[]api.Grant{reads(""), nothing("ann"), nothing("*")}, both, both, both, both},
		{[]api.Grant{nothing(""), heads("*"), nothing("ann")}, "", head, head, head},
		{[]api.Grant{reads("ann"), nothing("ann")}, "", both, "", ""},
		{[]api.Grant{nothing("ann"), reads("ann")}, "", both, "", ""},
	} {
		for _, hide := range []bool{false, true} {
			for _, realm := range []string{"", "r"} {
				r := api.Rule{Prefix: path("a b"), Grants: c.grants, Hide: hide, Realm: realm}
				checkGranted(t, r, "", c.anonymous)
				checkGranted(t, r, "ann", c.ann)
				checkGranted(t, r, "bob", c.bob)
				checkGranted(t, r, "*", c.star)
				for _, p := range principals {
					check(t, r, p)
				}
			}
		}
	}
	checkGranted(t, api.Rule{}, "", "")
	checkGranted(t, api.Rule{}, "ann", "")
}

// P22.2, P22.3, P22.4: all short lists of grants.
func TestGrantedAll(t *testing.T) {
	pieces := slices.Concat(bits(""), bits("*"), bits("ann"), bits("bob"), []api.Grant{reads("Ann")})
	who := []string{"", "ann", "bob", "carl", "*"}
	counts := map[string]int{}
	eachList(pieces, 3, func(l []api.Grant) {
		r := api.Rule{Grants: l}
		for _, p := range who {
			counts[strings.Join(methodsOf(r, p), " ")]++
			check(t, r, p)
		}
		checkAnonymous(t, r, who)
	})
	for _, all := range []string{"", "GET OPTIONS", "HEAD OPTIONS", "GET HEAD OPTIONS"} {
		if counts[all] < 1000 {
			t.Error(counts)
		}
	}
}

// P22.4: what is granted to the anonymous principal is granted to every principal.
func checkAnonymous(t *testing.T, r api.Rule, who []string) {
	t.Helper()
	for _, method := range acl.Methods(r, "") {
		for _, p := range who {
			if !acl.Granted(r, p, method) || !slices.Contains(acl.Methods(r, p), method) || !acl.Readable([]api.Rule{r}, r.Prefix, p) {
				t.Fatalf("%q is granted to the anonymous principal, but not to %q by %q", method, p, fmt.Sprint(r))
			}
		}
	}
}

// P22.2, P22.4: random lists of grants.
func TestGrantedRandom(t *testing.T) {
	random := rand.New(rand.NewSource(222))
	for range 3000 {
		r := api.Rule{Prefix: path("a"), Hide: random.Intn(2) == 0}
		for range random.Intn(8) {
			r.Grants = append(r.Grants, api.Grant{
				User: principals[random.Intn(len(principals))],
				Get:  random.Intn(4) == 0,
				Head: random.Intn(4) == 0,
			})
		}
		for _, p := range principals {
			check(t, r, p)
		}
		checkAnonymous(t, r, principals)
	}
}

// P22.2: no method but GET, HEAD and OPTIONS is granted, whatever the grants are.
func TestGrantedMethods(t *testing.T) {
	all := api.Rule{Grants: slices.Concat(bits(""), bits("*"), bits("ann"))}
	check := func(method string) {
		t.Helper()
		want := method == "GET" || method == "HEAD" || method == "OPTIONS"
		for _, p := range []string{"", "ann", "*"} {
			if got := acl.Granted(all, p, method); got != want {
				t.Fatalf("Granted(%q, %.100q) = %t", p, method, got)
			}
			if acl.Granted(api.Rule{}, p, method) {
				t.Fatalf("%.100q is granted by a zero rule", method)
			}
		}
	}
	for _, method := range methods {
		check(method)
		check(strings.ToLower(method))
		for i := range len(method) + 1 {
			for n := range 256 {
				c := string([]byte{byte(n)})
				check(method[:i] + c + method[i:])
				if i < len(method) {
					check(method[:i] + c + method[i+1:])
				}
			}
		}
		for i := range len(method) {
			check(method[:i])
			check(method[i:])
		}
	}
	check(strings.Repeat("GET", 1<<20))
	eachList([]string{"G", "E", "T", "H", "A", "D"}, 5, func(l []string) { check(strings.Join(l, "")) })
}

// P22.2: many grants.
func TestGrantedLong(t *testing.T) {
	const n = 1 << 14
	var r api.Rule
	for i := range n {
		r.Grants = append(r.Grants, api.Grant{User: strconv.Itoa(i), Get: i%2 == 0, Head: i%3 == 0})
	}
	for _, i := range []int{0, 1, 2, 3, n - 1, n - 2, n, n + 6} {
		check(t, r, strconv.Itoa(i))
	}
	check(t, r, "")
	check(t, r, "00")
	r.Grants = append(r.Grants, api.Grant{User: "*", Get: true})
	check(t, r, "1")
	check(t, r, "x")
	check(t, r, "")
	r.Grants = append(r.Grants, api.Grant{Head: true})
	check(t, r, "x")
	check(t, r, "")
}

// readers returns rules: the root for everyone, a for users, "a b" for ann with HEAD only, "a b c" for nobody, d for the anonymous principal with HEAD, and "d e" with no grants that permit something.
func readers() []api.Rule {
	return []api.Rule{
		{Grants: []api.Grant{{Get: true}}},
		{Prefix: path("a"), Grants: []api.Grant{{User: "*", Get: true, Head: true}}, Realm: "r"},
		{Prefix: path("a b"), Grants: []api.Grant{{User: "ann", Head: true}}, Hide: true},
		{Prefix: path("a b c")},
		{Prefix: path("d"), Grants: []api.Grant{{Head: true}}, Hide: true},
		{Prefix: path("d e"), Grants: []api.Grant{{}, {User: "*"}, {User: "ann"}}},
	}
}

// P22.3: the paths that may be read are written out.
func TestReadable(t *testing.T) {
	for _, c := range []struct {
		path                string
		anonymous, ann, bob bool
	}{
		{"", true, true, true},
		{"x", true, true, true},
		{"ab", true, true, true},
		{"b a", true, true, true},
		{"A", true, true, true},
		{"a", false, true, true},
		{"a x", false, true, true},
		{"a bc", false, true, true},
		{"a b", false, true, false},
		{"a b x", false, true, false},
		{"a b c", false, false, false},
		{"a b c d", false, false, false},
		{"a b d", false, true, false},
		{"d", true, true, true},
		{"d x", true, true, true},
		{"d ee", true, true, true},
		{"d e", false, false, false},
		{"d e f", false, false, false},
	} {
		checkReadable(t, readers(), path(c.path), "", c.anonymous)
		checkReadable(t, readers(), path(c.path), "ann", c.ann)
		checkReadable(t, readers(), path(c.path), "bob", c.bob)
		checkReadable(t, readers(), path(c.path), "*", c.bob)
		// Without the rule for the empty prefix, its paths have no rule.
		has := c.path != "" && slices.Contains([]string{"a", "d"}, path(c.path)[0])
		checkReadable(t, readers()[1:], path(c.path), "ann", c.ann && has)
		checkReadable(t, readers()[1:], path(c.path), "", c.anonymous && has)
		checkReadable(t, nil, path(c.path), "", false)
		checkReadable(t, nil, path(c.path), "ann", false)
	}
}

// checkReadable checks Readable.
func checkReadable(t *testing.T, l []api.Rule, path []string, principal string, want bool) {
	t.Helper()
	if got := acl.Readable(l, path, principal); got != want {
		t.Fatalf("Readable(%.500q, %q, %q) = %t", fmt.Sprint(l), path, principal, got)
	}
}

// P22.3, P22.4: all short lists of rules.
func TestReadableAll(t *testing.T) {
	var pieces []api.Rule
	for _, p := range []string{"", "a", "a b"} {
		for _, user := range []string{"", "*", "ann"} {
			for _, g := range bits(user)[:3] {
				pieces = append(pieces, api.Rule{Prefix: path(p), Grants: []api.Grant{g}})
			}
		}
		pieces = append(pieces, api.Rule{Prefix: path(p), Hide: true, Realm: "GET"})
	}
	counts := map[bool]int{}
	eachList(pieces, 3, func(l []api.Rule) {
		for _, text := range []string{"", "a", "b", "a b", "a b c", "ab"} {
			p := path(text)
			var r api.Rule
			if index := matchOf(l, p); index >= 0 {
				r = l[index]
			}
			for _, who := range []string{"", "ann", "bob"} {
				want := len(methodsOf(r, who)) > 0
				counts[want]++
				checkReadable(t, l, p, who, want)
			}
			if acl.Readable(l, p, "") && (!acl.Readable(l, p, "ann") || !acl.Readable(l, p, "bob")) {
				t.Fatalf("%q: only the anonymous principal may read %q", fmt.Sprint(l), text)
			}
		}
	})
	if counts[true] < 10000 || counts[false] < 10000 {
		t.Error(counts)
	}
}

// spare returns rules and a path, with other elements behind the ends of all slices. The slices of the second rule are empty.
func spare() ([]api.Rule, []string) {
	l := []api.Rule{
		{Prefix: []string{"a", "b"}[:1], Grants: []api.Grant{gets("ann"), reads("")}[:1], Hide: true, Realm: "r"},
		{Prefix: []string{"c", "d"}[:0], Grants: []api.Grant{gets("bob"), reads("")}[:0]},
		{Prefix: []string{"a", "x"}, Grants: []api.Grant{reads("")}},
	}
	return l[:2], []string{"a", "x"}[:1]
}

// whole returns everything in rules and a path, also what is behind the ends.
func whole(l []api.Rule, p []string) ([]api.Rule, []string) {
	l = slices.Clone(l[:cap(l)])
	for i, r := range l {
		l[i].Prefix = slices.Clone(r.Prefix[:cap(r.Prefix)])
		l[i].Grants = slices.Clone(r.Grants[:cap(r.Grants)])
	}
	return l, slices.Clone(p[:cap(p)])
}

// checkStay checks that rules and a path are still those of spare.
func checkStay(t *testing.T, l []api.Rule, p []string) {
	t.Helper()
	rules, segments := whole(l, p)
	before, was := whole(spare())
	if !reflect.DeepEqual(rules, before) || !reflect.DeepEqual(segments, was) {
		t.Fatalf("%q, %q", fmt.Sprint(rules), segments)
	}
}

// Arguments stay as they are, also behind the ends of slices, and nothing is read there.
func TestArgumentsStay(t *testing.T) {
	l, p := spare()
	for range 2 {
		checkMatch(t, l, p, 0)
		checkMatch(t, l, p[:2], 0)
		checkMatch(t, l, nil, 1)
		for _, r := range l {
			for _, who := range principals {
				check(t, r, who)
				checkReadable(t, l, p, who, who == "ann")
				checkReadable(t, l, nil, who, false)
			}
		}
		checkStay(t, l, p)
	}
}

// Results share no memory with arguments: changes of either do not show in the other.
func TestResultsOwn(t *testing.T) {
	for _, p := range [][]string{{"a"}, nil} {
		l, segments := spare()
		got, other := acl.Match(l, p), acl.Match(l, p)
		want := api.Rule{Prefix: slices.Clone(other.Prefix), Grants: slices.Clone(other.Grants), Hide: other.Hide, Realm: other.Realm}
		for i := range got.Prefix {
			got.Prefix[i] = "changed"
		}
		for i := range got.Grants {
			got.Grants[i] = api.Grant{User: "changed"}
		}
		_ = append(got.Prefix, "appended")
		_ = append(got.Grants, api.Grant{User: "appended"})
		_ = append(got.Prefix[:0], "overwritten")
		checkStay(t, l, segments)
		if !same(other, want) {
			t.Errorf("%+v, want %+v", other, want)
		}

		for i, r := range l[:cap(l)] {
			clear(r.Prefix[:cap(r.Prefix)])
			clear(r.Grants[:cap(r.Grants)])
			l[:cap(l)][i] = api.Rule{}
		}
		clear(segments)
		clear(p)
		if !same(other, want) {
			t.Errorf("%+v, want %+v", other, want)
		}
	}

	r := api.Rule{Grants: bits("")}
	got, other := acl.Methods(r, ""), acl.Methods(r, "")
	got[0] = "changed"
	_ = append(got[:1], "changed", "changed", "changed")
	if want := []string{"GET", "HEAD", "OPTIONS"}; !slices.Equal(other, want) || !slices.Equal(acl.Methods(r, ""), want) {
		t.Errorf("%q", other)
	}
}

// The functions may be called concurrently.
func TestConcurrent(t *testing.T) {
	l := readers()
	var group sync.WaitGroup
	for i := range 8 {
		group.Go(func() {
			own := []string{"a", "b", strconv.Itoa(i)}
			for range 500 {
				r := acl.Match(l, own)
				if !same(r, l[2]) || !acl.Granted(r, "ann", "HEAD") || acl.Granted(r, "ann", "GET") || acl.Granted(r, "", "HEAD") {
					t.Errorf("%+v", r)
				}
				if got := acl.Methods(r, "ann"); !slices.Equal(got, []string{"HEAD", "OPTIONS"}) || !acl.Readable(l, own, "ann") || acl.Readable(l, own, "bob") {
					t.Errorf("%q", got)
				}
				r.Prefix[0], r.Grants[0].User = own[2], own[2]
			}
		})
	}
	group.Wait()
}
