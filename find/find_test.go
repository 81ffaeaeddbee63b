package find_test

import (
	"bytes"
	"fmt"
	"math/rand"
	"reflect"
	"slices"
	"strconv"
	"strings"
	"sync"
	"testing"

	"doorkeeper/api"
	"doorkeeper/find"
	"doorkeeper/segs"
	"doorkeeper/tree"
)

// path returns the segments that a text has between slashes.
func path(s string) []string {
	if s == "" {
		return nil
	}
	return strings.Split(s, "/")
}

// place returns the path of a text: a directory, if the text is empty or ends with a slash.
func place(s string) segs.Path {
	rest, isDir := strings.CutSuffix(s, "/")
	return segs.Path{Segs: path(rest), Dir: isDir || s == ""}
}

// entries returns the right entries of texts between spaces: directories, if they end with a slash.
func entries(texts string) api.Tree {
	var t api.Tree
	for _, s := range strings.Fields(texts) {
		if rest, ok := strings.CutSuffix(s, "/"); ok {
			t = append(t, api.File{Path: path(rest), Dir: true})
		} else {
			t = append(t, api.File{Path: path(s), Type: "type of " + s, Body: []byte("body of " + s)})
		}
	}
	return t
}

// made returns the tree of entries.
func made(t *testing.T, l api.Tree) *tree.Tree {
	t.Helper()
	got, err := tree.New(l)
	if err != nil {
		t.Fatalf("New(%.1000q) has the error %v", fmt.Sprint(l), err)
	}
	return got
}

// grown returns entries and the tree of them, with one more entry if it is right with them.
func grown(l api.Tree, f api.File) (api.Tree, *tree.Tree) {
	more := append(slices.Clone(l), f)
	if made, err := tree.New(more); err == nil {
		return more, made
	}
	made, _ := tree.New(l)
	return l, made
}

// always and never are functions that do not depend on the path.
func always([]string) bool { return true }
func never([]string) bool  { return false }

// kindOf returns the kind of a path by the definition of layer 19, and its entry if it is a file.
func kindOf(l api.Tree, path []string) (int, api.File) {
	kind := tree.None
	if len(path) == 0 {
		kind = tree.Dir
	}
	for _, f := range l {
		switch {
		case slices.Equal(f.Path, path) && !f.Dir:
			return tree.File, f
		case len(path) <= len(f.Path) && slices.Equal(f.Path[:len(path)], path):
			kind = tree.Dir
		}
	}
	return kind, api.File{}
}

// resultOf returns the result by the definition.
func resultOf(l api.Tree, root []string, p segs.Path, index string, may func([]string) bool) find.Result {
	full := slices.Concat(root, p.Segs)
	kind, f := kindOf(l, full)
	if kind == tree.File && !p.Dir {
		return find.Result{Kind: 1, File: f}
	}
	if kind == tree.Dir && !p.Dir {
		return find.Result{Kind: 2}
	}
	if kind == tree.Dir {
		kind, f = kindOf(l, append(full, index))
		if kind == tree.File && may(slices.Concat(p.Segs, []string{index})) {
			return find.Result{Kind: 1, File: f}
		}
	}
	return find.Result{}
}

// same reports whether two results are equal. Nil and empty slices are.
func same(a, b find.Result) bool {
	return a.Kind == b.Kind && slices.Equal(a.File.Path, b.File.Path) && a.File.Dir == b.File.Dir && a.File.Type == b.File.Type && bytes.Equal(a.File.Body, b.File.Body)
}

// samePaths reports whether two lists of paths are equal.
func samePaths(a, b [][]string) bool {
	return slices.EqualFunc(a, b, slices.Equal[[]string])
}

// lookedOf returns the paths on which a result depends by P24.2.
func lookedOf(p segs.Path, index string) [][]string {
	l := [][]string{slices.Clone(p.Segs)}
	if p.Dir {
		l = append(l, slices.Concat(p.Segs, []string{index}))
	}
	return l
}

// site is a tree with its entries.
type site struct {
	l api.Tree
	t *tree.Tree
}

// siteOf returns the site of entries.
func siteOf(t *testing.T, l api.Tree) site {
	t.Helper()
	return site{l, made(t, l)}
}

// checkFind checks Find against a result, and what it asks of the function.
func (s site) checkFind(t *testing.T, root []string, p segs.Path, index string, may func([]string) bool, want find.Result) {
	t.Helper()
	var asked [][]string
	got := find.Find(s.t, root, p, index, func(path []string) bool {
		asked = append(asked, slices.Clone(path))
		return may(path)
	})
	if !same(got, want) {
		t.Fatalf("Find(%.500q, %.200q, %.200q, %.100q) = %.300q, want %.300q", fmt.Sprint(s.l), root, fmt.Sprint(p), index, fmt.Sprint(got), fmt.Sprint(want))
	}
	for _, path := range asked {
		if !p.Dir || !slices.Equal(path, slices.Concat(p.Segs, []string{index})) {
			t.Fatalf("Find(%.500q, %.200q, %.200q, %.100q) asks for %.200q", fmt.Sprint(s.l), root, fmt.Sprint(p), index, path)
		}
	}
	checkPlace(t, got, root, p, index)
}

// checkPlace checks P24.3 for a result.
func checkPlace(t *testing.T, got find.Result, root []string, p segs.Path, index string) {
	t.Helper()
	if got.Kind != find.Served {
		if !same(got, find.Result{Kind: got.Kind}) {
			t.Fatalf("a file without Served: %.300q", fmt.Sprint(got))
		}
		return
	}
	if !slices.ContainsFunc(find.Looked(p, index), func(path []string) bool { return slices.Equal(got.File.Path, find.Full(root, path)) }) {
		t.Fatalf("%.200q is served for %.200q below %.200q", got.File.Path, fmt.Sprint(p), root)
	}
}

// check checks all functions for a path against the definition.
func (s site) check(t *testing.T, root []string, p segs.Path, index string) {
	t.Helper()
	for _, may := range []func([]string) bool{always, never, func(path []string) bool { return len(path)%2 == 0 }} {
		s.checkFind(t, root, p, index, may, resultOf(s.l, root, p, index, may))
	}
	checkLooked(t, p, index, lookedOf(p, index))
	checkFull(t, root, p.Segs)
}

// checkLooked checks Looked.
func checkLooked(t *testing.T, p segs.Path, index string, want [][]string) {
	t.Helper()
	if got := find.Looked(p, index); !samePaths(got, want) {
		t.Fatalf("Looked(%.200q, %.100q) = %.300q, want %.300q", fmt.Sprint(p), index, got, want)
	}
}

// checkFull checks Full.
func checkFull(t *testing.T, root, path []string) {
	t.Helper()
	if got, want := find.Full(root, path), slices.Concat(root, path); !slices.Equal(got, want) {
		t.Fatalf("Full(%.200q, %.200q) = %.300q", root, path, got)
	}
}

// eachList calls a function for all lists of up to n elements of some pieces.
func eachList[T any](pieces []T, n int, call func(l []T)) {
	var list []T
	var extend func()
	extend = func() {
		call(slices.Clone(list))
		if len(list) == n {
			return
		}
		for _, p := range pieces {
			list = append(list, p)
			extend()
			list = list[:len(list)-1]
		}
	}
	extend()
}

// eachPlace calls a function for all paths of up to n of some segments.
func eachPlace(segments []string, n int, call func(p segs.Path)) {
	eachList(segments, n, func(l []string) {
		call(segs.Path{Segs: l})
		call(segs.Path{Segs: l, Dir: true})
	})
}

// P24.1: the constants and the chapter's example.
func TestExample(t *testing.T) {
	if find.Missing != 0 || find.Served != 1 || find.Redirect != 2 {
		t.Error(find.Missing, find.Served, find.Redirect)
	}
	s := siteOf(t, entries("r/a/index.html"))
	if got := find.Find(s.t, []string{"r"}, segs.Path{Segs: []string{"a"}}, "index.html", always); !same(got, find.Result{Kind: find.Redirect}) {
		t.Errorf("%+v", got)
	}
	want := find.Result{Kind: find.Served, File: s.l[0]}
	if got := find.Find(s.t, []string{"r"}, segs.Path{Segs: []string{"a"}, Dir: true}, "index.html", always); !same(got, want) {
		t.Errorf("%+v", got)
	}
}

// P24.1: full paths are written out, and all of short lists.
func TestFull(t *testing.T) {
	for _, c := range []struct{ root, path, want []string }{
		{nil, nil, nil},
		{[]string{}, []string{}, nil},
		{path("a"), nil, path("a")},
		{nil, path("a"), path("a")},
		{path("a/b"), path("c/d"), path("a/b/c/d")},
		{path("a/b"), path("a/b"), path("a/b/a/b")},
		{path("c"), path("b/a"), path("c/b/a")},
		{[]string{""}, []string{""}, []string{"", ""}},
		{[]string{"a/", "."}, []string{"..", "/", "\x00"}, []string{"a/", ".", "..", "/", "\x00"}},
		{[]string{"a"}, []string{"..", ".."}, []string{"a", "..", ".."}},
	} {
		if got := find.Full(c.root, c.path); !slices.Equal(got, c.want) {
			t.Errorf("Full(%q, %q) = %q, want %q", c.root, c.path, got, c.want)
		}
	}
	eachList([]string{"", "a", "..", "\xff"}, 4, func(root []string) {
		eachList([]string{"", "a", ".."}, 4, func(path []string) { checkFull(t, root, path) })
	})
}

// P24.2: paths are written out.
func TestLooked(t *testing.T) {
	for _, c := range []struct {
		p     segs.Path
		index string
		want  [][]string
	}{
		{segs.Path{}, "i", [][]string{{}}},
		{segs.Path{Segs: []string{}}, "i", [][]string{nil}},
		{segs.Path{Dir: true}, "i", [][]string{nil, {"i"}}},
		{place("a"), "i", [][]string{{"a"}}},
		{place("a/"), "i", [][]string{{"a"}, {"a", "i"}}},
		{place("a/b"), "i", [][]string{{"a", "b"}}},
		{place("a/b/"), "i", [][]string{{"a", "b"}, {"a", "b", "i"}}},
		{place("i"), "i", [][]string{{"i"}}},
		{place("i/"), "i", [][]string{{"i"}, {"i", "i"}}},
		{place("a/"), "", [][]string{{"a"}, {"a", ""}}},
		{place("a/"), "..", [][]string{{"a"}, {"a", ".."}}},
		{place("a/"), "i/k", [][]string{{"a"}, {"a", "i/k"}}},
		{place("//"), "i", [][]string{{"", ""}, {"", "", "i"}}},
		{place("../"), "\x00", [][]string{{".."}, {"..", "\x00"}}},
	} {
		checkLooked(t, c.p, c.index, c.want)
	}
	eachPlace([]string{"", "a", "b", ".."}, 5, func(p segs.Path) {
		for _, index := range []string{"", "a", "i"} {
			checkLooked(t, p, index, lookedOf(p, index))
		}
	})
}

// shop is a tree with two roots, files outside of them, and directories with and without index files.
const shop = "r/index.html r/a/index.html r/a/x r/b/c/y r/e/ r/f/index.html/ r/g/index.html/index.html r/h/index.htm r/h/INDEX.HTML r/x s/index.html s/a/z index.html a/index.html x"

// P24.1: results are written out: the paths of files that are served, and the other kinds.
func TestFind(t *testing.T) {
	s := siteOf(t, entries(shop))
	for _, c := range []struct{ root, place, want string }{
		// Files, and files as directories.
		{"r", "x", "r/x"},
		{"r", "a/x", "r/a/x"},
		{"r", "b/c/y", "r/b/c/y"},
		{"r", "index.html", "r/index.html"},
		{"r", "a/index.html", "r/a/index.html"},
		{"r", "x/", "missing"},
		{"r", "a/x/", "missing"},
		{"r", "index.html/", "missing"},
		// Directories with an index file, and others.
		{"r", "", "r/index.html"},
		{"r", "a/", "r/a/index.html"},
		{"r", "b/", "missing"},
		{"r", "b/c/", "missing"},
		{"r", "e/", "missing"},
		{"r", "f/", "missing"},
		{"r", "f/index.html/", "missing"},
		{"r", "g/", "missing"},
		{"r", "g/index.html/", "r/g/index.html/index.html"},
		{"r", "h/", "missing"},
		// Directories that are no directories by their paths.
		{"r", "a", "redirect"},
		{"r", "b", "redirect"},
		{"r", "b/c", "redirect"},
		{"r", "e", "redirect"},
		{"r", "f/index.html", "redirect"},
		{"r", "g/index.html", "redirect"},
		// What is neither.
		{"r", "d", "missing"},
		{"r", "d/", "missing"},
		{"r", "X", "missing"},
		{"r", "A/", "missing"},
		{"r", "x/x", "missing"},
		{"r", "x/x/", "missing"},
		{"r", "x/index.html", "missing"},
		{"r", "a//x", "missing"},
		{"r", "/x", "missing"},
		{"r", "a//", "missing"},
		{"r", "/", "r/index.html"},
		{"r", "//", "missing"},
		{"r", "./x", "missing"},
		{"r", "../x", "missing"},
		{"r", "a/../x", "missing"},
		{"r", "../s/a/z", "missing"},
		{"r", "r/x", "missing"},
		{"r", "s/index.html", "missing"},
		// Other roots.
		{"s", "", "s/index.html"},
		{"s", "a/z", "s/a/z"},
		{"s", "a/", "missing"},
		{"s", "x", "missing"},
		{"s", "a/x", "missing"},
		{"", "", "index.html"},
		{"", "x", "x"},
		{"", "a/", "a/index.html"},
		{"", "a/x", "missing"},
		{"", "r/a/x", "r/a/x"},
		{"", "r", "redirect"},
		{"", "r/e/", "missing"},
		{"r/a", "", "r/a/index.html"},
		{"r/a", "x", "r/a/x"},
		{"r/e", "", "missing"},
		{"r/e", "x", "missing"},
		{"d", "", "missing"},
		{"d", "x", "missing"},
		{"R", "x", "missing"},
		{"r/..", "x", "missing"},
		{"r/x", "", "missing"},
		{"r/x", "x", "missing"},
	} {
		want := find.Result{Kind: find.Missing}
		switch c.want {
		case "missing":
		case "redirect":
			want.Kind = find.Redirect
		default:
			want = find.Result{Kind: find.Served, File: entries(c.want)[0]}
		}
		s.checkFind(t, path(c.root), place(c.place), "index.html", always, want)
		s.check(t, path(c.root), place(c.place), "index.html")
		for _, index := range []string{"", "x", "y", "index.htm", "Index.html", "..", ".", "a/x", "/", "a"} {
			s.check(t, path(c.root), place(c.place), index)
		}
		// No index file is served that may not be read.
		if got := find.Find(s.t, path(c.root), place(c.place), "index.html", never); got.Kind == find.Served && place(c.place).Dir {
			t.Errorf("%s below %s is served, though it may not be read", c.place, c.root)
		}
	}
}

// P24.1: the root as a path that is no directory, and a root that is a file.
func TestRoot(t *testing.T) {
	s := siteOf(t, entries(shop))
	s.checkFind(t, path("r"), segs.Path{}, "index.html", always, find.Result{Kind: find.Redirect})
	s.checkFind(t, nil, segs.Path{}, "index.html", always, find.Result{Kind: find.Redirect})
	s.checkFind(t, path("d"), segs.Path{}, "index.html", always, find.Result{})
	s.checkFind(t, path("r/x"), segs.Path{}, "index.html", never, find.Result{Kind: find.Served, File: entries("r/x")[0]})
	s.checkFind(t, path("r/x"), segs.Path{Dir: true}, "index.html", always, find.Result{})
	empty := siteOf(t, nil)
	empty.checkFind(t, nil, segs.Path{}, "i", always, find.Result{Kind: find.Redirect})
	empty.checkFind(t, nil, segs.Path{Dir: true}, "i", always, find.Result{})
	empty.checkFind(t, nil, place("i"), "i", always, find.Result{})
}

// P24.1: a nil tree has no files and directories.
func TestNilTree(t *testing.T) {
	for _, root := range []string{"", "r", "r/s"} {
		eachPlace([]string{"", "a"}, 3, func(p segs.Path) {
			if got := find.Find(nil, path(root), p, "a", always); !same(got, find.Result{}) {
				t.Errorf("%+v for %+v", got, p)
			}
		})
	}
}

// P24.1: the function is asked for the path of the index file below the root, and not for any other.
func TestMay(t *testing.T) {
	s := siteOf(t, entries("r/i r/a/i r/a/x r/a/b/i i a/i"))
	for _, c := range []struct{ root, place, asked string }{
		{"r", "", "i"},
		{"r", "a/", "a/i"},
		{"r", "a/b/", "a/b/i"},
		{"r/a", "", "i"},
		{"r/a", "b/", "b/i"},
		{"", "", "i"},
		{"", "r/a/", "r/a/i"},
	} {
		want := find.Result{Kind: find.Served, File: entries(strings.TrimPrefix(c.root+"/"+c.asked, "/"))[0]}
		only := func(p []string) bool { return slices.Equal(p, path(c.asked)) }
		s.checkFind(t, path(c.root), place(c.place), "i", only, want)
		s.checkFind(t, path(c.root), place(c.place), "i", func(p []string) bool { return !only(p) }, find.Result{})
	}
	for _, p := range []string{"a", "a/b", "a/x", "a/i", "i", "b", "a/c"} {
		find.Find(s.t, path("r"), place(p), "i", func(path []string) bool {
			t.Errorf("%q is asked for, for the path %s", path, p)
			return true
		})
	}
}

// P24.1: a function that is nil or panics permits nothing, and is not needed for other paths.
func TestMayBroken(t *testing.T) {
	s := siteOf(t, entries("r/i r/a/i r/a/x"))
	broken := func(reason any) func([]string) bool {
		return func([]string) bool { panic(reason) }
	}
	for _, may := range []func([]string) bool{nil, broken("broken"), broken(nil), broken(1), func(p []string) bool { return p[len(p)] == "" }} {
		for place, want := range map[segsKey]find.Result{
			{"", true}:     {},
			{"a", true}:    {},
			{"a", false}:   {Kind: find.Redirect},
			{"a/x", false}: {Kind: find.Served, File: s.l[2]},
			{"a/x", true}:  {},
			{"a/i", false}: {Kind: find.Served, File: s.l[1]},
			{"b", true}:    {},
			{"b", false}:   {},
		} {
			p := segs.Path{Segs: path(place.text), Dir: place.dir}
			if got := find.Find(s.t, path("r"), p, "i", may); !same(got, want) {
				t.Errorf("%+v for %+v, want %+v", got, place, want)
			}
		}
	}
}

// segsKey is a path as the key of a map.
type segsKey struct {
	text string
	dir  bool
}

// P24.1: a function that changes what it is asked for changes neither the result nor the arguments.
func TestMayChanges(t *testing.T) {
	s := siteOf(t, entries("r/a/i r/a/x r/x"))
	var kept []string
	changes := func(p []string) bool {
		p = p[:cap(p)]
		kept = append(kept, p...)
		for i := range p {
			p[i] = "x"
		}
		return true
	}
	root, p := []string{"r", "spare"}[:1], segs.Path{Segs: []string{"a", "spare"}[:1], Dir: true}
	s.checkFind(t, root, p, "i", changes, find.Result{Kind: find.Served, File: s.l[0]})
	if !slices.Equal(root[:2], []string{"r", "spare"}) || !slices.Equal(p.Segs[:2], []string{"a", "spare"}) || slices.Contains(kept, "spare") {
		t.Error(root[:2], p.Segs[:2], kept)
	}
}

// P24.1 to P24.3: all trees of few entries, all roots, paths and index names. P24.2: what is at the full paths of Looked gives the result.
func TestAll(t *testing.T) {
	var trees []site
	for _, pieces := range []string{"a a/ a/a a/a/ a/b a/b/a", "a/a/a a/a/b a/b/ a/b/b b b/a b/"} {
		eachList(entries(pieces), 3, func(l []api.File) {
			if made, err := tree.New(l); err == nil {
				trees = append(trees, site{l, made})
			}
		})
	}
	if len(trees) < 100 {
		t.Fatal(len(trees), "trees")
	}
	for _, root := range [][]string{nil, path("a"), path("a/b")} {
		eachPlace([]string{"a", "b", ""}, 2, func(p segs.Path) {
			for _, index := range []string{"a", "b", ""} {
				results := map[string]find.Result{}
				for _, s := range trees {
					s.check(t, root, p, index)
					key := ""
					for _, path := range find.Looked(p, index) {
						kind, f := kindOf(s.l, find.Full(root, path))
						key += fmt.Sprintf("%d %q ", kind, fmt.Sprint(f))
					}
					got := find.Find(s.t, root, p, index, always)
					if want, ok := results[key]; ok && !same(got, want) {
						t.Fatalf("%+v and %+v for %q", got, want, key)
					}
					results[key] = got
				}
			}
		})
	}
}

// P24.1 to P24.3: each byte in roots, segments and index names; they are not decoded, cleaned or joined.
func TestBytes(t *testing.T) {
	for n := range 256 {
		c := string([]byte{byte(n)})
		var l api.Tree
		for _, p := range [][]string{{"r", c}, {"r", "a" + c, c + "b"}, {"r", "a", "b"}, {c + c, "i"}, {"r", "d", c + "i"}, {"r", "d", "i"}} {
			l, _ = grown(l, api.File{Path: p, Type: "x", Body: []byte(strings.Join(p, " "))})
		}
		s := siteOf(t, l)
		for _, root := range [][]string{{"r"}, {"r" + c}, {c + "r"}, {"r", c}, {c}, {c + c}, nil} {
			for _, p := range [][]string{{c}, {"a" + c, c + "b"}, {"a", "b"}, {"a" + c + "b"}, {"a", c, "b"}, {"a" + c + c + "b"}, {"d"}, {"d" + c}, {c, "d"}, nil} {
				for _, index := range []string{"i", c + "i", "i" + c, c, c + "b"} {
					s.check(t, root, segs.Path{Segs: p}, index)
					s.check(t, root, segs.Path{Segs: p, Dir: true}, index)
				}
			}
		}
	}
}

// P24.1: the bodies and types of files are served as they are.
func TestContents(t *testing.T) {
	every := make([]byte, 256)
	for i := range every {
		every[i] = byte(i)
	}
	l := api.Tree{
		{Path: path("r/every"), Type: "a/b; c=\"d\"\t\xff", Body: every},
		{Path: path("r/none"), Type: "x"},
		{Path: path("r/large"), Type: strings.Repeat("t", 1<<16), Body: bytes.Repeat([]byte("\r\n\x00"), 1<<18)},
	}
	s := siteOf(t, l)
	for _, f := range l {
		name := f.Path[1]
		s.checkFind(t, path("r"), place(name), "i", never, find.Result{Kind: find.Served, File: f})
		s.checkFind(t, path("r"), place(""), name, always, find.Result{Kind: find.Served, File: f})
		s.checkFind(t, nil, place("r/"), name, always, find.Result{Kind: find.Served, File: f})
		s.checkFind(t, nil, place("r/"), name, never, find.Result{})
	}
}

// P24.1 to P24.3: random trees and paths.
func TestRandom(t *testing.T) {
	random := rand.New(rand.NewSource(24))
	names := []string{"a", "b", "i"}
	some := func(n int) []string {
		var p []string
		for range random.Intn(n) {
			p = append(p, names[random.Intn(len(names))])
		}
		return p
	}
	count := map[int]int{}
	for range 2000 {
		var s site
		for i := range 20 {
			f := api.File{Path: some(6), Dir: random.Intn(4) == 0}
			if !f.Dir {
				f.Type, f.Body = "x", []byte(strconv.Itoa(i))
			}
			s.l, s.t = grown(s.l, f)
		}
		for range 20 {
			root, p := some(3), segs.Path{Segs: some(5), Dir: random.Intn(2) == 0}
			s.check(t, root, p, "i")
			count[find.Find(s.t, root, p, "i", always).Kind]++
		}
	}
	for kind := range 3 {
		if count[kind] < 1000 {
			t.Error(count)
		}
	}
}

// P24.1 to P24.3: long paths and names.
func TestLong(t *testing.T) {
	const n = 1 << 12
	long, name := slices.Repeat([]string{"a"}, n), strings.Repeat("x", 1<<20)
	l := api.Tree{
		{Path: append(slices.Clone(long), name), Type: "x", Body: []byte("1")},
		{Path: append(slices.Clone(long), name+"x"), Type: "x", Body: []byte("2")},
		{Path: append(slices.Clone(long), "a"), Dir: true},
	}
	s := siteOf(t, l)
	for _, k := range []int{0, 1, n / 2, n - 1, n} {
		root, rest := long[:k], long[k:]
		s.checkFind(t, root, segs.Path{Segs: rest, Dir: true}, name, always, find.Result{Kind: find.Served, File: l[0]})
		s.checkFind(t, root, segs.Path{Segs: rest, Dir: true}, name+"x", always, find.Result{Kind: find.Served, File: l[1]})
		s.checkFind(t, root, segs.Path{Segs: rest, Dir: true}, name+"y", always, find.Result{})
		s.checkFind(t, root, segs.Path{Segs: rest}, name, always, find.Result{Kind: find.Redirect})
		s.check(t, root, segs.Path{Segs: long, Dir: true}, name)
		s.check(t, root, segs.Path{Segs: append(slices.Clone(rest), name)}, name)
		s.check(t, root, segs.Path{Segs: append(slices.Clone(rest), "a"), Dir: true}, name)
	}
}

// Arguments stay as they are, also behind the ends of slices, and nothing is read there.
func TestArgumentsStay(t *testing.T) {
	s := siteOf(t, entries("r/a/i r/a/x r/a/b/i r/i r/x"))
	list := func() []string { return []string{"r", "a", "b", "i", "x", "spare"} }
	all := list()
	for from := range 3 {
		for to := from; to < 5; to++ {
			// The path is in the memory behind the root.
			for _, isDir := range []bool{false, true} {
				s.check(t, all[:from], segs.Path{Segs: all[from:to], Dir: isDir}, "i")
				s.check(t, all[:from], segs.Path{Segs: all[1:max(1, to)], Dir: isDir}, "i")
			}
		}
	}
	if !slices.Equal(all, list()) {
		t.Error(all)
	}
	if !reflect.DeepEqual(s.t.Entries(), made(t, s.l).Entries()) {
		t.Error("the tree has changed")
	}
}

// overwrite changes all of a path, also behind its end.
func overwrite(p []string) {
	p = p[:cap(p)]
	for i := range p {
		p[i] = "changed"
	}
}

// Results share no memory with arguments, the tree, or other results.
func TestResultsOwn(t *testing.T) {
	s := siteOf(t, entries("r/a/i r/x"))
	root, p := path("r"), segs.Path{Segs: path("a"), Dir: true}
	for range 2 {
		for _, place := range []segs.Path{p, {Segs: path("x")}} {
			want := resultOf(s.l, root, place, "i", always)
			got, other := find.Find(s.t, root, place, "i", always), find.Find(s.t, root, place, "i", always)
			overwrite(got.File.Path)
			clear(got.File.Body)
			if !same(other, want) {
				t.Errorf("%+v, want %+v", other, want)
			}
		}
	}
	full, other := find.Full(root, p.Segs), find.Full(root, p.Segs)
	overwrite(full)
	only, none := find.Full(root, nil), find.Full(nil, p.Segs)
	overwrite(only)
	overwrite(none)
	if !slices.Equal(other, path("r/a")) || !slices.Equal(root, path("r")) || !slices.Equal(p.Segs, path("a")) {
		t.Error(other, root, p)
	}
	served := find.Find(s.t, root, p, "i", always)
	overwrite(root)
	overwrite(p.Segs)
	if !same(served, find.Result{Kind: find.Served, File: s.l[0]}) || !slices.Equal(other, path("r/a")) {
		t.Error(served, other)
	}
}

// The paths of Looked share no memory with the argument and each other.
func TestLookedOwn(t *testing.T) {
	for n := range 20 {
		p := segs.Path{Segs: slices.Repeat([]string{"a"}, n), Dir: true}
		want := lookedOf(p, "i")
		got, other := find.Looked(p, "i"), find.Looked(p, "i")
		overwrite(got[0])
		if !slices.Equal(got[1], want[1]) {
			t.Errorf("%q, want %q", got[1], want[1])
		}
		overwrite(got[1])
		checkLooked(t, p, "i", want)
		overwrite(p.Segs)
		if !samePaths(other, want) {
			t.Errorf("%q, want %q", other, want)
		}
	}
}

// The functions may be called concurrently.
func TestConcurrent(t *testing.T) {
	s := siteOf(t, entries(shop))
	root := path("r")
	want := find.Result{Kind: find.Served, File: s.l[1]}
	var group sync.WaitGroup
	for range 8 {
		group.Go(func() {
			for range 300 {
				got := find.Find(s.t, root, place("a/"), "index.html", always)
				if !same(got, want) || find.Find(s.t, root, place("a"), "index.html", never).Kind != find.Redirect {
					t.Errorf("%+v", got)
					return
				}
				overwrite(got.File.Path)
				clear(got.File.Body)
				overwrite(find.Full(root, root))
				overwrite(find.Looked(place("a/"), "x")[1])
			}
		})
	}
	group.Wait()
}
