package decide_test

import (
	"fmt"
	"math"
	"math/rand"
	"reflect"
	"slices"
	"strconv"
	"strings"
	"sync"
	"testing"

	"doorkeeper/api"
	"doorkeeper/decide"
)

// methods are all methods with a kind, and strings that are none.
var methods = []string{"GET", "HEAD", "OPTIONS", "POST", "PUT", "DELETE", "PATCH", "TRACE", "CONNECT", "", "get", "Head", "options", "GET ", " GET", "GETHEAD", "HEADER", "*", "G\x00ET", "\u0413ET"}

// principals are the anonymous one, names, and texts that are similar to them.
var principals = []string{"", "ann", "bob", "carl", "Ann", "an", "anna", "ann ", "*", "**", " ", "\x00", "\xff"}

// eachList calls a function for all lists of up to n elements of some pieces.
func eachList[T any](pieces []T, n int, call func(l []T)) {
	var list []T
	var extend func()
	extend = func() {
		call(slices.Clone(list))
		if len(list) == n {
			return
		}
		for _, p := range pieces {
			list = append(list, p)
			extend()
			list = list[:len(list)-1]
		}
	}
	extend()
}

// path returns the segments that a text has between spaces.
func path(text string) []string { return strings.Fields(text) }

// grant returns a grant whose methods are told by the letters g and h.
func grant(user, letters string) api.Grant {
	return api.Grant{User: user, Get: strings.Contains(letters, "g"), Head: strings.Contains(letters, "h")}
}

// grants returns all grants of a user.
func grants(user string) []api.Grant {
	return []api.Grant{grant(user, ""), grant(user, "g"), grant(user, "h"), grant(user, "gh")}
}

// grantedOf returns the methods that are granted by the definition of layer 22.
func grantedOf(r api.Rule, principal string) []string {
	var get, head bool
	for _, g := range r.Grants {
		if g.User == "" || g.User == principal || g.User == "*" && principal != "" {
			get = get || g.Get
			head = head || g.Head
		}
	}
	var l []string
	if get {
		l = append(l, "GET")
	}
	if head {
		l = append(l, "HEAD")
	}
	if get || head {
		l = append(l, "OPTIONS")
	}
	return l
}

// decisionOf returns the decision by the definition.
func decisionOf(r api.Rule, principal, method string) decide.Decision {
	l := grantedOf(r, principal)
	if slices.Contains(l, method) {
		return decide.Decision{Kind: decide.Allow, Methods: l}
	}
	if len(l) > 0 {
		return decide.Decision{Kind: decide.MethodNo, Methods: l}
	}
	if principal == "" && !r.Hide {
		return decide.Decision{Kind: decide.Challenge, Realm: r.Realm}
	}
	return decide.Decision{Kind: decide.Hide}
}

// ruleOf returns the rule of a path by the definition of layer 22: it tries the longest beginning first.
func ruleOf(l []api.Rule, path []string) api.Rule {
	for n := len(path); n >= 0; n-- {
		for _, r := range l {
			if slices.Equal(r.Prefix, path[:n]) {
				return r
			}
		}
	}
	return api.Rule{}
}

// same reports whether two decisions are equal. Nil and empty slices are.
func same(a, b decide.Decision) bool {
	return a.Kind == b.Kind && slices.Equal(a.Methods, b.Methods) && a.Realm == b.Realm
}

// checkBy checks By against a decision.
func checkBy(t *testing.T, r api.Rule, principal, method string, want decide.Decision) {
	t.Helper()
	if got := decide.By(r, principal, method); !same(got, want) {
		t.Fatalf("By(%.500q, %.100q, %.100q) = %.200q, want %.200q", fmt.Sprint(r), principal, method, fmt.Sprint(got), fmt.Sprint(want))
	}
}

// check checks By for all methods against the definition.
func check(t *testing.T, r api.Rule, principal string) {
	t.Helper()
	for _, method := range methods {
		checkBy(t, r, principal, method, decisionOf(r, principal, method))
	}
}

// checkFor checks For against a decision, and Sees against what it tells by P23.4.
func checkFor(t *testing.T, h api.Host, path []string, principal, method string, want decide.Decision) {
	t.Helper()
	if got := decide.For(h, path, principal, method); !same(got, want) {
		t.Fatalf("For(%.500q, %.200q, %.100q, %.100q) = %.200q, want %.200q", fmt.Sprint(h), path, principal, method, fmt.Sprint(got), fmt.Sprint(want))
	}
	sees := want.Kind == decide.Allow || want.Kind == decide.MethodNo
	if got := decide.Sees(h, path, principal); got != sees {
		t.Fatalf("Sees(%.500q, %.200q, %.100q) = %t", fmt.Sprint(h), path, principal, got)
	}
	if principal != "" && want.Kind == decide.Challenge {
		t.Fatalf("%q is challenged", principal)
	}
}

// written returns the decision that a text has: the kind, and the methods or the realm.
func written(text string) decide.Decision {
	words := strings.Fields(text)
	switch words[0] {
	case "allow":
		return decide.Decision{Kind: 1, Methods: words[1:]}
	case "challenge":
		return decide.Decision{Kind: 2, Realm: strings.Join(words[1:], " ")}
	case "hide":
		return decide.Decision{Kind: 3}
	}
	return decide.Decision{Kind: 4, Methods: words[1:]}
}

// The kinds have the numbers of the chapter.
func TestKinds(t *testing.T) {
	if got := [...]int{decide.Allow, decide.Challenge, decide.Hide, decide.MethodNo}; got != [...]int{1, 2, 3, 4} {
		t.Error(got)
	}
}

// P23.1: the chapter's example.
func TestExample(t *testing.T) {
	r := api.Rule{Grants: []api.Grant{grant("*", "g")}, Realm: "realm"}
	checkBy(t, r, "ann", "POST", written("method GET OPTIONS"))
	checkBy(t, r, "", "POST", written("challenge realm"))
	r.Hide = true
	checkBy(t, r, "ann", "POST", written("method GET OPTIONS"))
	checkBy(t, r, "", "POST", written("hide"))
}

// P23.1, P23.4: decisions are written out.
func TestBy(t *testing.T) {
	const all = "GET HEAD OPTIONS"
	get, head, both := grant("", "g"), grant("", "h"), grant("", "gh")
	for _, c := range []struct {
		grants            []api.Grant
		principal, method string
		// The decisions on a rule without Hide, and on one with it.
		shown, hidden string
	}{
		{nil, "", "GET", "challenge the realm", "hide"},
		{nil, "", "POST", "challenge the realm", "hide"},
		{nil, "", "", "challenge the realm", "hide"},
		{nil, "ann", "GET", "hide", "hide"},
		{nil, "ann", "HEAD", "hide", "hide"},
		{nil, "ann", "OPTIONS", "hide", "hide"},
		{nil, "ann", "POST", "hide", "hide"},
		{nil, "ann", "", "hide", "hide"},
		{nil, "*", "GET", "hide", "hide"},
		{nil, " ", "GET", "hide", "hide"},
		{nil, "\x00", "GET", "hide", "hide"},
		{[]api.Grant{grant("", "")}, "", "GET", "challenge the realm", "hide"},
		{[]api.Grant{grant("", "")}, "", "OPTIONS", "challenge the realm", "hide"},
		{[]api.Grant{grant("", "")}, "ann", "GET", "hide", "hide"},
		// Methods for every request.
		{[]api.Grant{both}, "", "GET", "allow " + all, "allow " + all},
		{[]api.Grant{both}, "", "HEAD", "allow " + all, "allow " + all},
		{[]api.Grant{both}, "", "OPTIONS", "allow " + all, "allow " + all},
		{[]api.Grant{both}, "", "POST", "method " + all, "method " + all},
		{[]api.Grant{both}, "", "TRACE", "method " + all, "method " + all},
		{[]api.Grant{both}, "", "get", "method " + all, "method " + all},
		{[]api.Grant{both}, "", "Options", "method " + all, "method " + all},
		{[]api.Grant{both}, "", "BREW", "method " + all, "method " + all},
		{[]api.Grant{both}, "", "", "method " + all, "method " + all},
		{[]api.Grant{both}, "ann", "GET", "allow " + all, "allow " + all},
		{[]api.Grant{both}, "ann", "PUT", "method " + all, "method " + all},
		{[]api.Grant{get}, "", "GET", "allow GET OPTIONS", "allow GET OPTIONS"},
		{[]api.Grant{get}, "", "HEAD", "method GET OPTIONS", "method GET OPTIONS"},
		{[]api.Grant{get}, "", "OPTIONS", "allow GET OPTIONS", "allow GET OPTIONS"},
		{[]api.Grant{head}, "", "GET", "method HEAD OPTIONS", "method HEAD OPTIONS"},
		{[]api.Grant{head}, "", "HEAD", "allow HEAD OPTIONS", "allow HEAD OPTIONS"},
		{[]api.Grant{head}, "ann", "OPTIONS", "allow HEAD OPTIONS", "allow HEAD OPTIONS"},
		{[]api.Grant{head, get}, "ann", "GET", "allow " + all, "allow " + all},
		// Methods for all users, and for one.
		{[]api.Grant{grant("*", "gh")}, "", "GET", "challenge the realm", "hide"},
		{[]api.Grant{grant("*", "gh")}, "", "OPTIONS", "challenge the realm", "hide"},
		{[]api.Grant{grant("*", "gh")}, "bob", "GET", "allow " + all, "allow " + all},
		{[]api.Grant{grant("ann", "g")}, "", "GET", "challenge the realm", "hide"},
		{[]api.Grant{grant("ann", "g")}, "ann", "GET", "allow GET OPTIONS", "allow GET OPTIONS"},
		{[]api.Grant{grant("ann", "g")}, "ann", "HEAD", "method GET OPTIONS", "method GET OPTIONS"},
		{[]api.Grant{grant("ann", "g")}, "bob", "GET", "hide", "hide"},
		{[]api.Grant{grant("ann", "g")}, "Ann", "GET", "hide", "hide"},
		{[]api.Grant{grant("ann", "g")}, "*", "GET", "hide", "hide"},
		{[]api.Grant{grant("ann", "g"), grant("*", "h")}, "ann", "HEAD", "allow " + all, "allow " + all},
		{[]api.Grant{grant("ann", "g"), grant("*", "h")}, "bob", "GET", "method HEAD OPTIONS", "method HEAD OPTIONS"},
		{[]api.Grant{grant("ann", "g"), grant("*", "h")}, "", "HEAD", "challenge the realm", "hide"},
		{[]api.Grant{grant("ann", "g"), head}, "", "GET", "method HEAD OPTIONS", "method HEAD OPTIONS"},
		{[]api.Grant{grant("ann", "g"), head}, "", "HEAD", "allow HEAD OPTIONS", "allow HEAD OPTIONS"},
		{[]api.Grant{grant("ann", "")}, "ann", "GET", "hide", "hide"},
	} {
		r := api.Rule{Grants: c.grants, Realm: "the realm"}
		checkBy(t, r, c.principal, c.method, written(c.shown))
		r.Prefix = path("a b")
		checkBy(t, r, c.principal, c.method, written(c.shown))
		r.Hide = true
		checkBy(t, r, c.principal, c.method, written(c.hidden))
	}
}

// P23.1: realms are those of the rule, whatever they are.
func TestRealm(t *testing.T) {
	for _, realm := range []string{"", "r", "a b", " ", `a"b`, "a\r\nb", "\x00", "\xff", "é", strings.Repeat("r", 1<<20)} {
		r := api.Rule{Prefix: path("a"), Grants: []api.Grant{grant("*", "gh")}, Realm: realm}
		checkBy(t, r, "", "GET", decide.Decision{Kind: decide.Challenge, Realm: realm})
		checkFor(t, api.Host{Rules: []api.Rule{r}}, path("a"), "", "GET", decide.Decision{Kind: decide.Challenge, Realm: realm})
		check(t, r, "ann")
		r.Hide = true
		checkBy(t, r, "", "GET", decide.Decision{Kind: decide.Hide})
	}
}

// P23.1, P23.4: all short lists of grants.
func TestByAll(t *testing.T) {
	pieces := slices.Concat(grants(""), grants("*"), grants("ann"), grants("bob")[3:])
	counts := map[int]int{}
	eachList(pieces, 3, func(l []api.Grant) {
		for _, r := range []api.Rule{{Grants: l, Realm: "r"}, {Grants: l, Realm: "r", Hide: true}} {
			for _, p := range []string{"", "ann", "bob", "carl", "*"} {
				for _, m := range []string{"GET", "HEAD", "OPTIONS", "POST", ""} {
					want := decisionOf(r, p, m)
					checkBy(t, r, p, m, want)
					counts[want.Kind]++
					if p != "" && want.Kind == decide.Challenge {
						t.Fatalf("%q is challenged by %q", p, fmt.Sprint(r))
					}
				}
			}
		}
	})
	for kind := 1; kind <= 4; kind++ {
		if counts[kind] < 1000 || len(counts) != 4 {
			t.Error(counts)
		}
	}
}

// P23.1: each byte in principals and methods.
func TestByBytes(t *testing.T) {
	for _, r := range []api.Rule{
		{Realm: "r"},
		{Realm: "r", Hide: true},
		{Realm: "r", Grants: []api.Grant{grant("*", "g")}},
		{Realm: "r", Grants: []api.Grant{grant("ann", "h")}, Hide: true},
		{Realm: "r", Grants: []api.Grant{grant("", "gh")}},
	} {
		for n := range 256 {
			c := string([]byte{byte(n)})
			for _, p := range []string{c, "ann" + c, c + "ann", "a" + c + "n"} {
				check(t, r, p)
			}
			for _, m := range []string{c, "GET" + c, c + "GET", "G" + c + "T", "HEA" + c, c + "PTIONS", "OPTION" + c} {
				for _, p := range []string{"", "ann", "bob"} {
					checkBy(t, r, p, m, decisionOf(r, p, m))
				}
			}
		}
	}
}

// guarded returns a virtual host: GET for everyone at the root, everything for users below a, HEAD for ann below "a b", nothing below "a b c", HEAD for everyone below d, and nothing, hidden, below "d e".
func guarded() api.Host {
	return api.Host{Names: []string{"h"}, Root: path("r"), Rules: []api.Rule{
		{Grants: []api.Grant{grant("", "g")}, Realm: "root"},
		{Prefix: path("a"), Grants: []api.Grant{grant("*", "gh")}, Realm: "users"},
		{Prefix: path("a b"), Grants: []api.Grant{grant("ann", "h")}, Realm: "ann", Hide: true},
		{Prefix: path("a b c"), Realm: "nobody"},
		{Prefix: path("d"), Grants: []api.Grant{grant("", "h")}, Realm: "d", Hide: true},
		{Prefix: path("d e"), Grants: []api.Grant{grant("", ""), grant("*", ""), grant("ann", "")}, Realm: "e", Hide: true},
	}}
}

// P23.2, P23.4: decisions on GET for the paths of a virtual host are written out.
func TestFor(t *testing.T) {
	for _, c := range []struct{ path, anonymous, ann, bob string }{
		{"", "allow GET OPTIONS", "allow GET OPTIONS", "allow GET OPTIONS"},
		{"x", "allow GET OPTIONS", "allow GET OPTIONS", "allow GET OPTIONS"},
		{"b a", "allow GET OPTIONS", "allow GET OPTIONS", "allow GET OPTIONS"},
		{"ab", "allow GET OPTIONS", "allow GET OPTIONS", "allow GET OPTIONS"},
		{"A", "allow GET OPTIONS", "allow GET OPTIONS", "allow GET OPTIONS"},
		// The root of the virtual host is no part of the path.
		{"r a", "allow GET OPTIONS", "allow GET OPTIONS", "allow GET OPTIONS"},
		{"a", "challenge users", "allow GET HEAD OPTIONS", "allow GET HEAD OPTIONS"},
		{"a x", "challenge users", "allow GET HEAD OPTIONS", "allow GET HEAD OPTIONS"},
		{"a bc", "challenge users", "allow GET HEAD OPTIONS", "allow GET HEAD OPTIONS"},
		{"a b", "hide", "method HEAD OPTIONS", "hide"},
		{"a b x", "hide", "method HEAD OPTIONS", "hide"},
		{"a b c", "challenge nobody", "hide", "hide"},
		{"a b c d", "challenge nobody", "hide", "hide"},
		{"d", "method HEAD OPTIONS", "method HEAD OPTIONS", "method HEAD OPTIONS"},
		{"d ee", "method HEAD OPTIONS", "method HEAD OPTIONS", "method HEAD OPTIONS"},
		{"d e", "hide", "hide", "hide"},
		{"d e f", "hide", "hide", "hide"},
	} {
		h := guarded()
		checkFor(t, h, path(c.path), "", "GET", written(c.anonymous))
		checkFor(t, h, path(c.path), "ann", "GET", written(c.ann))
		checkFor(t, h, path(c.path), "bob", "GET", written(c.bob))
		for _, p := range principals {
			for _, m := range methods {
				checkFor(t, h, path(c.path), p, m, decisionOf(ruleOf(h.Rules, path(c.path)), p, m))
			}
		}
	}
}

// P23.2: paths without a rule have the decision on a zero one.
func TestForNone(t *testing.T) {
	for _, h := range []api.Host{
		{},
		{Rules: []api.Rule{}},
		{Names: []string{"a"}, Root: path("a")},
		{Rules: []api.Rule{{Prefix: path("b"), Grants: grants(""), Realm: "r", Hide: true}, {Prefix: path("a b"), Grants: grants("*"), Realm: "r"}}},
	} {
		for _, p := range [][]string{nil, {}, path("a"), path("a c"), path("c b"), {""}} {
			for _, method := range methods {
				checkFor(t, h, p, "", method, decide.Decision{Kind: decide.Challenge})
				checkFor(t, h, p, "ann", method, decide.Decision{Kind: decide.Hide})
				checkFor(t, h, p, "*", method, decide.Decision{Kind: decide.Hide})
			}
		}
	}
}

// P23.2, P23.4: all short lists of rules.
func TestForAll(t *testing.T) {
	var pieces []api.Rule
	for _, p := range []string{"", "a", "a b"} {
		for i, l := range [][]api.Grant{nil, {grant("", "g")}, {grant("*", "h")}, {grant("ann", "gh"), grant("", "")}} {
			pieces = append(pieces, api.Rule{Prefix: path(p), Grants: l, Realm: p + strconv.Itoa(i), Hide: i%2 == len(p)%2})
		}
	}
	eachList(pieces, 3, func(l []api.Rule) {
		h := api.Host{Rules: l}
		for _, text := range []string{"", "a", "b", "a b", "a b c", "ab"} {
			r := ruleOf(l, path(text))
			for _, p := range []string{"", "ann", "bob"} {
				for _, m := range []string{"GET", "HEAD", "OPTIONS", "POST"} {
					checkFor(t, h, path(text), p, m, decisionOf(r, p, m))
				}
			}
		}
	})
}

// P23.1, P23.2, P23.4: random rules.
func TestRandom(t *testing.T) {
	random := rand.New(rand.NewSource(23))
	some := func(n int) []string {
		var p []string
		for range random.Intn(n) {
			p = append(p, string(rune('a'+random.Intn(2))))
		}
		return p
	}
	for range 2000 {
		var h api.Host
		for range random.Intn(8) {
			r := api.Rule{Prefix: some(4), Hide: random.Intn(2) == 0, Realm: strconv.Itoa(random.Intn(100))}
			for range random.Intn(4) {
				r.Grants = append(r.Grants, api.Grant{User: principals[random.Intn(len(principals))], Get: random.Intn(3) == 0, Head: random.Intn(3) == 0})
			}
			h.Rules = append(h.Rules, r)
		}
		for range 20 {
			p, who, method := some(6), principals[random.Intn(len(principals))], methods[random.Intn(len(methods))]
			r := ruleOf(h.Rules, p)
			checkBy(t, r, who, method, decisionOf(r, who, method))
			checkFor(t, h, p, who, method, decisionOf(r, who, method))
		}
	}
}

// P23.1, P23.2: many grants and rules, and long paths and texts.
func TestLong(t *testing.T) {
	const n = 1 << 12
	r := api.Rule{Realm: "r"}
	for i := range n {
		r.Grants = append(r.Grants, api.Grant{User: "user " + strconv.Itoa(i), Get: i%2 == 0, Head: i%3 == 0})
	}
	for _, i := range []int{0, 1, 2, 3, n - 1, n, n + 2} {
		check(t, r, "user "+strconv.Itoa(i))
	}
	check(t, r, "")

	long := slices.Repeat([]string{"a"}, n)
	h := api.Host{Rules: []api.Rule{r}}
	for i := range n {
		h.Rules = append(h.Rules, api.Rule{Prefix: long[:i+1], Realm: strconv.Itoa(i)})
	}
	checkFor(t, h, long, "", "GET", written("challenge "+strconv.Itoa(n-1)))
	checkFor(t, h, append(slices.Clone(long), "a"), "", "GET", written("challenge "+strconv.Itoa(n-1)))
	checkFor(t, h, append(slices.Clone(long[:9]), "b"), "", "GET", written("challenge 8"))
	checkFor(t, h, long, "user 0", "GET", written("hide"))
	checkFor(t, h, nil, "user 0", "GET", written("allow GET HEAD OPTIONS"))

	text := strings.Repeat("GET", 1<<20)
	checkBy(t, api.Rule{Grants: grants(text)}, text, text, written("method GET HEAD OPTIONS"))
	checkBy(t, api.Rule{Grants: grants(text)}, text+"G", "GET", written("hide"))
	checkBy(t, api.Rule{Grants: grants(text)}, text, "GET", written("allow GET HEAD OPTIONS"))
}

// P23.3: all kinds, and numbers that are none.
func TestName(t *testing.T) {
	want := map[int]string{1: "allow", 2: "challenge", 3: "hide", 4: "method"}
	for n := -1000; n <= 1000; n++ {
		if got := decide.Name(n); got != want[n] {
			t.Errorf("Name(%d) = %q", n, got)
		}
	}
	for shift := range 64 {
		for add := -5; add <= 5; add++ {
			for _, n := range []int{1<<shift + add, -1<<shift + add, math.MaxInt - 5 + add, math.MinInt + 5 + add} {
				if got := decide.Name(n); got != want[n] {
					t.Errorf("Name(%d) = %q", n, got)
				}
			}
		}
	}
}

// spare returns a virtual host and a path, with other elements behind the ends of all slices.
func spare() (api.Host, []string) {
	return api.Host{Names: []string{"h", "i"}[:1], Root: []string{"r", "s"}[:1], Rules: []api.Rule{
		{Prefix: []string{"a", "b"}[:1], Grants: []api.Grant{grant("ann", "g"), grant("", "gh")}[:1], Hide: true, Realm: "r"},
		{Prefix: []string{"c"}[:0], Grants: []api.Grant{grant("", "gh")}[:0], Realm: "s"},
		{Prefix: []string{"a", "x"}, Grants: []api.Grant{grant("", "gh")}},
	}[:2]}, []string{"a", "x"}[:1]
}

// whole returns everything in a virtual host and a path, also what is behind the ends.
func whole(h api.Host, p []string) (api.Host, []string) {
	h.Names, h.Root = slices.Clone(h.Names[:cap(h.Names)]), slices.Clone(h.Root[:cap(h.Root)])
	h.Rules = slices.Clone(h.Rules[:cap(h.Rules)])
	for i, r := range h.Rules {
		h.Rules[i].Prefix = slices.Clone(r.Prefix[:cap(r.Prefix)])
		h.Rules[i].Grants = slices.Clone(r.Grants[:cap(r.Grants)])
	}
	return h, slices.Clone(p[:cap(p)])
}

// Arguments stay as they are, also behind the ends of slices, and nothing is read there.
func TestArgumentsStay(t *testing.T) {
	h, p := spare()
	for range 2 {
		checkFor(t, h, p, "ann", "GET", written("allow GET OPTIONS"))
		checkFor(t, h, p[:2], "ann", "HEAD", written("method GET OPTIONS"))
		checkFor(t, h, p, "", "GET", written("hide"))
		checkFor(t, h, nil, "", "GET", written("challenge s"))
		checkFor(t, h, nil, "ann", "GET", written("hide"))
		for _, r := range h.Rules {
			for _, who := range principals {
				check(t, r, who)
			}
		}
		got, segments := whole(h, p)
		before, was := whole(spare())
		if !reflect.DeepEqual(got, before) || !reflect.DeepEqual(segments, was) {
			t.Fatalf("%q, %q", fmt.Sprint(got), segments)
		}
	}
}

// Results share no memory with arguments or with other results.
func TestResultsOwn(t *testing.T) {
	h := guarded()
	for _, method := range []string{"GET", "POST"} {
		want := decisionOf(h.Rules[1], "ann", method)
		got, other, third := decide.For(h, path("a"), "ann", method), decide.For(h, path("a"), "ann", method), decide.By(h.Rules[1], "ann", method)
		got.Methods[0] = "changed"
		_ = append(got.Methods[:1], "changed", "changed", "changed")
		if !same(other, want) || !same(third, want) || !same(decide.By(h.Rules[1], "ann", method), want) {
			t.Errorf("%+v, %+v", other, third)
		}
	}
	got := decide.For(h, path("a"), "ann", "GET")
	for i, r := range h.Rules {
		clear(r.Prefix)
		clear(r.Grants)
		h.Rules[i] = api.Rule{}
	}
	if !same(got, written("allow GET HEAD OPTIONS")) {
		t.Errorf("%+v", got)
	}
}

// The functions may be called concurrently.
func TestConcurrent(t *testing.T) {
	h := guarded()
	var group sync.WaitGroup
	for i := range 8 {
		group.Go(func() {
			own := []string{"a", "b", strconv.Itoa(i)}
			for range 500 {
				got := decide.For(h, own, "ann", "GET")
				if !same(got, written("method HEAD OPTIONS")) || !decide.Sees(h, own, "ann") || decide.Sees(h, own, "bob") {
					t.Errorf("%+v", got)
					return
				}
				got.Methods[0] = own[2]
				if got := decide.Name(got.Kind); got != "method" {
					t.Error(got)
				}
			}
		})
	}
	group.Wait()
}
