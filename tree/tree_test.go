package tree_test

import (
	"bytes"
	"fmt"
	"maps"
	"math/rand"
	"regexp"
	"slices"
	"strings"
	"sync"
	"testing"

	"doorkeeper/api"
	"doorkeeper/tree"
)

// The parts of right entries.
var (
	plain = regexp.MustCompile(`(?s)\A[^/\\\x00]+\z`)
	typed = regexp.MustCompile(`\A[^\x00-\x20\x7f]([^\x00-\x08\x0a-\x1f\x7f]*[^\x00-\x20\x7f])?\z`)
)

// none is the index of the wrong entry of a right tree.
const none = -1

// latin returns a text with a rune for each byte, so that regular expressions see bytes.
func latin(s string) string {
	var runes []rune
	for i := range len(s) {
		runes = append(runes, rune(s[i]))
	}
	return string(runes)
}

// plainOf returns what Plain returns by the definition.
func plainOf(s string) bool {
	return s != "." && s != ".." && plain.MatchString(latin(s))
}

// within reports whether a path is a proper beginning of another.
func within(path, of []string) bool {
	return len(path) < len(of) && slices.Equal(path, of[:len(path)])
}

// wrongOf returns the index of the first wrong entry by the definition, or none.
func wrongOf(t api.Tree) int {
	for i := range t {
		if !rightIn(t, i) {
			return i
		}
	}
	return none
}

// rightIn reports whether an entry of a tree is right by the definition.
func rightIn(t api.Tree, i int) bool {
	f := t[i]
	if len(f.Path) == 0 || slices.ContainsFunc(f.Path, func(s string) bool { return !plainOf(s) }) {
		return false
	}
	if slices.ContainsFunc(t[:i], func(other api.File) bool { return slices.Equal(other.Path, f.Path) }) {
		return false
	}
	if slices.ContainsFunc(t, func(other api.File) bool { return !other.Dir && within(other.Path, f.Path) }) {
		return false
	}
	if f.Dir {
		return f.Type == "" && len(f.Body) == 0
	}
	return typed.MatchString(latin(f.Type))
}

// kindOf returns the kind of a path by the definition.
func kindOf(t api.Tree, path []string) int {
	kind := 0
	if len(path) == 0 {
		kind = 2
	}
	for _, f := range t {
		switch {
		case slices.Equal(f.Path, path) && !f.Dir:
			return 1
		case slices.Equal(f.Path, path), within(path, f.Path):
			kind = 2
		}
	}
	return kind
}

// listOf returns what List returns by the definition.
func listOf(t api.Tree, path []string) []string {
	if kindOf(t, path) != 2 {
		return nil
	}
	names := map[string]bool{}
	for _, f := range t {
		if within(path, f.Path) {
			names[f.Path[len(path)]] = true
		}
	}
	l := slices.Collect(maps.Keys(names))
	slices.SortFunc(l, func(a, b string) int { return bytes.Compare([]byte(a), []byte(b)) })
	return l
}

// same reports whether two entries are the same.
func same(a, b api.File) bool {
	return slices.Equal(a.Path, b.Path) && a.Dir == b.Dir && a.Type == b.Type && bytes.Equal(a.Body, b.Body)
}

// show returns the beginning of a text of entries, for messages.
func show(l ...api.File) string {
	text := ""
	for _, f := range l {
		if len(text) < 1000 {
			text += fmt.Sprintf("{%.200q %t %.200q %.200q}", f.Path, f.Dir, f.Type, f.Body)
		}
	}
	return text
}

// checkPath checks what a tree tells of a path.
func checkPath(t *testing.T, made *tree.Tree, entries api.Tree, path []string) {
	t.Helper()
	kind := kindOf(entries, path)
	if got := made.Kind(path); got != kind {
		t.Fatalf("Kind(%.200q) = %d, want %d in %s", path, got, kind, show(entries...))
	}
	var want api.File
	for _, f := range entries {
		if kind == 1 && slices.Equal(f.Path, path) {
			want = f
		}
	}
	if got, ok := made.Get(path); ok != (kind == 1) || !same(got, want) {
		t.Fatalf("Get(%.200q) = %s, %t, want %s in %s", path, show(got), ok, show(want), show(entries...))
	}
	if got, want := made.List(path), listOf(entries, path); !slices.Equal(got, want) {
		t.Fatalf("List(%.200q) = %.200q, want %.200q in %s", path, got, want, show(entries...))
	}
}

// checkEntries checks Entries.
func checkEntries(t *testing.T, made *tree.Tree, want api.Tree) {
	t.Helper()
	if got := made.Entries(); !slices.EqualFunc(got, want, same) {
		t.Fatalf("Entries() = %s, want %s", show(got...), show(want...))
	}
}

// checkNew checks New for entries of which the one with an index is the first that is wrong, or none is.
func checkNew(t *testing.T, entries api.Tree, wrong int) *tree.Tree {
	t.Helper()
	made, err := tree.New(entries)
	if wrong == none {
		if made == nil || err != nil {
			t.Fatalf("New(%s) = %v, %#v", show(entries...), made, err)
		}
		checkEntries(t, made, entries)
		return made
	}
	if want := error(api.Fault{Status: 400, At: wrong}); made != nil || err != want {
		t.Fatalf("New(%s) = %v, %#v, want %#v", show(entries...), made, err, want)
	}
	return nil
}

// check checks all methods against the definition: for the paths of the entries, their beginnings, and some others.
func check(t *testing.T, entries api.Tree, others ...[]string) {
	t.Helper()
	wrong := wrongOf(entries)
	made := checkNew(t, entries, wrong)
	if wrong != none {
		return
	}
	for _, f := range entries {
		for n := range f.Path {
			checkPath(t, made, entries, f.Path[:n])
		}
		checkPath(t, made, entries, f.Path)
		checkPath(t, made, entries, append(slices.Clone(f.Path), f.Path...))
	}
	for _, path := range others {
		checkPath(t, made, entries, path)
	}
}

// path returns the path whose segments a text has between slashes.
func path(s string) []string {
	if s == "" {
		return nil
	}
	return strings.Split(s, "/")
}

// entry returns a right entry: a directory, if the text of its path ends with a slash.
func entry(s string) api.File {
	if rest, ok := strings.CutSuffix(s, "/"); ok {
		return api.File{Path: path(rest), Dir: true}
	}
	return api.File{Path: path(s), Type: "text/plain", Body: []byte("body of " + s)}
}

// entries returns the entries of texts.
func entries(texts ...string) api.Tree {
	var t api.Tree
	for _, s := range texts {
		t = append(t, entry(s))
	}
	return t
}

// eachPath calls a function for all paths of up to n of some segments.
func eachPath(segments []string, n int, call func(path []string)) {
	var list []string
	var extend func()
	extend = func() {
		call(slices.Clone(list))
		if len(list) == n {
			return
		}
		for _, s := range segments {
			list = append(list, s)
			extend()
			list = list[:len(list)-1]
		}
	}
	extend()
}

// eachTree calls a function for all trees of up to n of some entries.
func eachTree(l api.Tree, n int, call func(t api.Tree)) {
	var list api.Tree
	var extend func()
	extend = func() {
		call(slices.Clone(list))
		if len(list) == n {
			return
		}
		for _, f := range l {
			list = append(list, f)
			extend()
			list = list[:len(list)-1]
		}
	}
	extend()
}

// eachByte calls a function for each byte.
func eachByte(call func(c string)) {
	for n := range 256 {
		call(string([]byte{byte(n)}))
	}
}

// P19.1 to P19.3: the constants and the chapter's example.
func TestExample(t *testing.T) {
	if tree.None != 0 || tree.File != 1 || tree.Dir != 2 {
		t.Error(tree.None, tree.File, tree.Dir)
	}
	made := checkNew(t, entries("a/b.txt"), none)
	for s, want := range map[string]int{"": tree.Dir, "a": tree.Dir, "a/b.txt": tree.File, "b": tree.None, "b.txt": tree.None, "a/b": tree.None, "a/b.txt/c": tree.None, "a/": tree.None} {
		if got := made.Kind(path(s)); got != want {
			t.Errorf("Kind(%q) = %d, want %d", s, got, want)
		}
	}
	if got := made.List(nil); !slices.Equal(got, []string{"a"}) {
		t.Errorf("List = %q", got)
	}
	if got := made.List([]string{"a"}); !slices.Equal(got, []string{"b.txt"}) {
		t.Errorf("List = %q", got)
	}
	if got, ok := made.Get([]string{"a", "b.txt"}); !ok || !same(got, entry("a/b.txt")) {
		t.Errorf("Get = %s, %t", show(got), ok)
	}
}

// The methods of a nil tree.
func TestNil(t *testing.T) {
	var made *tree.Tree
	for _, path := range [][]string{nil, {}, {"a"}, {"a", "b"}, {""}} {
		if got := made.Kind(path); got != tree.None {
			t.Errorf("Kind(%q) = %d", path, got)
		}
		if got, ok := made.Get(path); ok || !same(got, api.File{}) {
			t.Errorf("Get(%q) = %s, %t", path, show(got), ok)
		}
		if got := made.List(path); len(got) != 0 {
			t.Errorf("List(%q) = %q", path, got)
		}
	}
	if got := made.Entries(); len(got) != 0 {
		t.Errorf("Entries = %s", show(got...))
	}
}

// P19.1 to P19.3: a tree without entries is right, and has the root.
func TestEmpty(t *testing.T) {
	for _, l := range []api.Tree{nil, {}} {
		made := checkNew(t, l, none)
		for _, path := range [][]string{nil, {}, {"a"}, {""}, {"", ""}, {"."}} {
			checkPath(t, made, nil, path)
		}
		if made.Kind(nil) != tree.Dir || made.Kind([]string{}) != tree.Dir || made.Kind([]string{""}) != tree.None {
			t.Error("the kind of the root")
		}
	}
}

// P19.4: plain segments are written out.
func TestPlain(t *testing.T) {
	for s, want := range map[string]bool{
		"a": true, "index.html": true, "...": true, ".a": true, "a.": true, "..a": true, ". ": true, " .": true, " ": true, "\t": true, "\r\n": true, "%": true, "%2f": true, "%2e%2e": true, "%00": true, ":": true, "a b": true, "~": true, "é": true, "\xff": true, "\xc0\xaf": true, "\u2215": true, "\u2024": true, "\x7f": true, "\x01": true, "0": true, "*": true, ".\xff": true, "....": true,
		"": false, ".": false, "..": false, "../": false, "/": false, "\\": false, "\x00": false, "a/b": false, "a\\b": false, "a\x00": false, "\x00a": false, "/a": false, "a/": false, "../a": false, "./": false, "\\..": false, ".\x00": false, "é/": false, "\xff\x00": false, "\xff\\": false,
	} {
		if got := tree.Plain(s); got != want || want != plainOf(s) {
			t.Errorf("Plain(%q) = %t", s, got)
		}
	}
}

// P19.4: each byte in each place, and all texts of few pieces.
func TestPlainAll(t *testing.T) {
	check := func(s string) {
		if got := tree.Plain(s); got != plainOf(s) {
			t.Fatalf("Plain(%q) = %t", s, got)
		}
	}
	for _, s := range []string{"", ".", "..", "abc", "é", "\xff"} {
		eachByte(func(c string) {
			for i := range len(s) + 1 {
				check(s[:i] + c + s[i:])
				check(s[:i] + c)
			}
		})
	}
	eachPath([]string{".", "a", "/", "\\", "\x00", " ", "é", "\xff", "\xe2\x80"}, 5, func(l []string) {
		check(strings.Join(l, ""))
	})
	for n := range 70 {
		for _, c := range []string{"/", "\\", "\x00", ".", "a", "\xff"} {
			check(strings.Repeat("a", n) + c + strings.Repeat("b", n))
			check(strings.Repeat(".", n) + c)
		}
	}
}

// P19.1: right trees and the first wrong entries of others are written out.
func TestNew(t *testing.T) {
	for _, c := range []struct {
		entries api.Tree
		wrong   int
	}{
		{entries("a"), none},
		{entries("a/"), none},
		{entries("a/b/c/", "a/b/d", "a/", "e"), none},
		{entries("a/", "a/b/", "a/b/c"), none},
		{entries("a/b/c", "a/b/", "a/"), none},
		{entries("a", "ab", "b/a", "a "), none},
		{entries("A", "a", "Á", "á"), none},
		{entries("a/b", "ab"), none},
		{entries("a/a", "b/a", "b/b/a"), none},
		{api.Tree{{Path: []string{"a"}, Dir: true, Body: []byte{}}, {Path: []string{"b"}, Type: "x"}}, none},

		// No segments, or one that is not plain.
		{api.Tree{{Dir: true}}, 0},
		{api.Tree{{Path: []string{}, Dir: true}}, 0},
		{api.Tree{{Type: "x"}}, 0},
		{api.Tree{{}}, 0},
		{api.Tree{entry("a/"), {Dir: true}}, 1},
		{entries("a", "b//c"), 1},
		{entries("a", "b/./c/"), 1},
		{entries("a", "../a/"), 1},
		{entries("a", "b/.."), 1},
		{entries("a", "b", "c/d\x00"), 2},
		{entries("a", "b", "c\\d/e/"), 2},
		{api.Tree{entry("a"), {Path: []string{"b/c"}, Type: "x"}}, 1},
		{api.Tree{entry("a"), {Path: []string{""}, Type: "x"}}, 1},
		{api.Tree{entry("a"), {Path: []string{"b", ""}, Dir: true}}, 1},

		// Entries with the same path.
		{entries("a", "a"), 1},
		{entries("a/", "a/"), 1},
		{entries("a/", "a"), 1},
		{entries("a", "a/"), 1},
		{entries("a", "b", "c/d", "a", "b"), 3},
		{entries("a/b/", "a/", "c", "a/b"), 3},

		// Files within files.
		{entries("a", "a/b"), 1},
		{entries("a/b", "a"), 0},
		{entries("a/b/c/", "x", "a"), 0},
		{entries("x", "a/b/c/d", "a/b"), 1},
		{entries("a/", "a/b/c", "a/b/d", "a/b"), 1},
		{entries("a/", "a/b", "c", "a/b/d/e/f/"), 3},
		{entries("a/b/", "a/b/c", "a"), 0},
		// The file that is wrong for another reason makes entries wrong, too.
		{entries("a/b", "a/", "a"), 0},
		{entries("a/", "x", "a/b", "a"), 2},
		{api.Tree{entry("a/b"), {Path: []string{"a"}}}, 0},
		{api.Tree{entry("x"), entry("a/b"), {Path: []string{"a"}, Type: "\n"}}, 1},
		// The path without segments is a proper beginning of all others.
		{api.Tree{entry("a"), {}}, 0},
		{api.Tree{entry("a/"), entry("b/"), {Type: "x"}}, 0},
		// A directory makes no entry wrong.
		{api.Tree{entry("a/b"), {Path: []string{"a"}, Dir: true, Type: "x"}}, 1},
		{api.Tree{entry("a/b"), {Dir: true}}, 1},

		// Directories with a type or a body, and files with a wrong type.
		{api.Tree{{Path: []string{"a"}, Dir: true, Type: "x"}}, 0},
		{api.Tree{{Path: []string{"a"}, Dir: true, Body: []byte("x")}}, 0},
		{api.Tree{{Path: []string{"a"}, Dir: true, Body: []byte{0}}}, 0},
		{api.Tree{{Path: []string{"a"}, Body: []byte("x")}}, 0},
		{api.Tree{entry("b"), {Path: []string{"a"}, Type: " x"}}, 1},
		{api.Tree{entry("b"), {Path: []string{"a"}, Type: "x\t"}}, 1},
		{api.Tree{entry("b"), {Path: []string{"a"}, Type: " "}}, 1},
		{api.Tree{entry("b"), {Path: []string{"a"}, Type: "x\r\ny: z"}}, 1},

		// The first of several wrong entries.
		{api.Tree{entry("a"), {Path: []string{"b"}}, entry("a"), entry(".."), entry("a/c")}, 1},
		{entries("x", "a", "a", "..", "b/c", "b"), 2},
		{entries("x", "b/c", "a", "a", "..", "b"), 1},
	} {
		checkNew(t, c.entries, c.wrong)
		if got := wrongOf(c.entries); got != c.wrong {
			t.Errorf("the definition: %d for %s, want %d", got, show(c.entries...), c.wrong)
		}
		check(t, c.entries, path("a"), path("b"), path("a/b/c"), path("c"))
	}
}

// P19.1: types are written out, and each byte is put in each place.
func TestTypes(t *testing.T) {
	checkType := func(s string, right bool) {
		t.Helper()
		wrong := none
		if !right {
			wrong = 1
		}
		checkNew(t, api.Tree{entry("a"), {Path: []string{"b"}, Type: s}, entry("c")}, wrong)
		if typed.MatchString(latin(s)) != right {
			t.Errorf("the definition: %q", s)
		}
	}
	for s, right := range map[string]bool{
		"text/plain": true, "text/html; charset=utf-8": true, "x": true, "x\ty": true, "x  y": true, "!": true, "é": true, "\xff": true, "\x80": true, ",": true, "\"": true,
		"": false, " ": false, "\t": false, " x": false, "x ": false, "\tx": false, "x\t": false, "x\n": false, "\r": false, "x\x00y": false, "x\x7fy": false, "\x7f": false, "x\x1f": false, "x\r\n y": false, " \x01": false,
	} {
		checkType(s, right)
	}
	for _, s := range []string{"", "x", "text/plain", " x", "\xff"} {
		eachByte(func(c string) {
			for i := range len(s) + 1 {
				text := s[:i] + c + s[i:]
				checkType(text, typed.MatchString(latin(text)))
			}
		})
	}
	// The type of a directory is empty, whatever it is.
	eachByte(func(c string) {
		checkNew(t, api.Tree{entry("a/"), {Path: []string{"b"}, Dir: true, Type: c}}, 1)
	})
}

// P19.1: each byte in each place of a segment.
func TestSegments(t *testing.T) {
	eachByte(func(c string) {
		for _, s := range []string{"", ".", "ab"} {
			for i := range len(s) + 1 {
				text := s[:i] + c + s[i:]
				for _, p := range [][]string{{text}, {"x", text}, {text, "x"}, {"x", text, "x"}} {
					l := api.Tree{entry("first/"), {Path: p, Dir: true}, entry("last")}
					wrong := none
					if !plainOf(text) {
						wrong = 1
					}
					checkNew(t, l, wrong)
					check(t, l, []string{text}, []string{c})
					l[1] = api.File{Path: p, Type: "x", Body: []byte(c)}
					checkNew(t, l, wrong)
					check(t, l, []string{text}, []string{c})
				}
			}
		}
	})
}

// P19.2 and P19.3: segments are not joined, whatever stands between them.
func TestSegmentsApart(t *testing.T) {
	eachByte(func(c string) {
		if c == "/" || c == "\\" || c == "\x00" {
			return
		}
		for _, l := range []api.Tree{
			{{Path: []string{"a" + c + "b"}, Type: "x", Body: []byte("1")}, {Path: []string{"a", "b"}, Type: "x", Body: []byte("2")}},
			{{Path: []string{"a", c + "b"}, Type: "x", Body: []byte("1")}, {Path: []string{"a" + c, "b"}, Type: "x", Body: []byte("2")}},
			{{Path: []string{"a" + c}, Type: "x", Body: []byte("1")}, {Path: []string{"a", "b"}, Type: "x", Body: []byte("2")}},
		} {
			if wrong := wrongOf(l); wrong != none && c != "." {
				t.Fatalf("%s: %d", show(l...), wrong)
			}
			check(t, l, []string{"a" + c + "b"}, []string{"a", "b"}, []string{"a", c, "b"}, []string{"ab"}, []string{"a/b"}, []string{"a\x00b"}, []string{"a", "", "b"}, []string{"", "a", "b"}, []string{"a", "b", ""})
		}
	})
}

// P19.1 to P19.3: all trees of few entries of all kinds.
func TestFewEntries(t *testing.T) {
	var others [][]string
	eachPath([]string{"a", "b", "", ".."}, 3, func(path []string) { others = append(others, path) })
	var all, right api.Tree
	for i, p := range [][]string{{}, {"a"}, {"b"}, {"a", "b"}, {"a", "a"}, {"a", "b", "a"}, {".."}, {"a", ""}, {"a", "/", "b"}} {
		file := api.File{Path: p, Type: fmt.Sprint("type/", i), Body: []byte(fmt.Sprint(i))}
		all = append(all, file, api.File{Path: p, Dir: true}, api.File{Path: p}, api.File{Path: p, Dir: true, Body: []byte("x")})
		if 1 <= i && i <= 5 {
			right = append(right, file, api.File{Path: p, Dir: true})
		}
	}
	eachTree(all, 3, func(l api.Tree) { check(t, l, others[:20]...) })
	count := 0
	eachTree(right, 4, func(l api.Tree) {
		if wrongOf(l) == none {
			count++
		}
		check(t, l, others...)
	})
	if count < 1000 {
		t.Errorf("only %d right trees", count)
	}
}

// P19.3: names are in ascending order of their bytes, each once.
func TestList(t *testing.T) {
	want := []string{"\x01", " ", "!", "-", "-a", "0", "10", "9", "A", "B", "Z", "_", "a", "a ", "a-", "a.b", "aA", "aa", "aaa", "ab", "b", "~", "\x7f", "\x80", "\xc3", "é", "ÿ", "\u20ac", "\U0001f600", "\xff", "\xff\xff"}
	random := rand.New(rand.NewSource(3))
	for round := range 50 {
		var l api.Tree
		for _, name := range want {
			switch round % 3 {
			case 0:
				l = append(l, api.File{Path: []string{"d", name}, Dir: true})
			case 1:
				l = append(l, api.File{Path: []string{"d", name}, Type: "x"})
			default:
				l = append(l, api.File{Path: []string{"d", name, "x"}, Type: "x"}, api.File{Path: []string{"d", name, "y"}, Dir: true}, api.File{Path: []string{"d", name}, Dir: true})
			}
		}
		random.Shuffle(len(l), func(i, j int) { l[i], l[j] = l[j], l[i] })
		made := checkNew(t, l, none)
		for range 3 {
			if got := made.List([]string{"d"}); !slices.Equal(got, want) {
				t.Fatalf("List = %q, want %q", got, want)
			}
		}
		check(t, l, []string{"d", "x"})
	}
}

// P19.3: only directories have names.
func TestListNothing(t *testing.T) {
	made := checkNew(t, entries("a/", "b", "c/d/"), none)
	for _, s := range []string{"a", "b", "c/d", "d", "b/x", "a/b", "x", "x/y", "/", "/a", "a/"} {
		if got := made.List(path(s)); len(got) != 0 {
			t.Errorf("List(%q) = %q", s, got)
		}
	}
	for _, s := range []string{"", "c"} {
		if got := made.List(path(s)); len(got) == 0 {
			t.Errorf("List(%q) is empty", s)
		}
	}
}

// P19.2: only files have entries; a directory with an entry has none.
func TestGet(t *testing.T) {
	made := checkNew(t, api.Tree{entry("a/"), {Path: []string{"b"}, Type: "text/html; charset=utf-8", Body: []byte("\x00\xff\r\n")}, {Path: []string{"c"}, Type: "y"}, entry("d/e")}, none)
	for _, s := range []string{"", "a", "d", "e", "B", "b/", "b/b", "/b", "b ", "d/e/", "d/e/e"} {
		if got, ok := made.Get(path(s)); ok || !same(got, api.File{}) {
			t.Errorf("Get(%q) = %s, %t", s, show(got), ok)
		}
	}
	for s, want := range map[string]api.File{
		"b":   {Path: []string{"b"}, Type: "text/html; charset=utf-8", Body: []byte("\x00\xff\r\n")},
		"c":   {Path: []string{"c"}, Type: "y"},
		"d/e": {Path: []string{"d", "e"}, Type: "text/plain", Body: []byte("body of d/e")},
	} {
		if got, ok := made.Get(path(s)); !ok || !same(got, want) {
			t.Errorf("Get(%q) = %s, %t", s, show(got), ok)
		}
	}
}

// scribble changes all that can be changed in entries, also behind the ends of slices.
func scribble(l api.Tree) {
	l = l[:cap(l)]
	for i, f := range l {
		for j := range f.Path[:cap(f.Path)] {
			f.Path[:cap(f.Path)][j] = "scribbled"
		}
		for j := range f.Body[:cap(f.Body)] {
			f.Body[:cap(f.Body)][j]++
		}
		l[i] = api.File{Path: []string{"x"}, Type: "changed", Dir: !f.Dir}
	}
}

// P19.5: a tree stays as it is when arguments and results are changed.
func TestStays(t *testing.T) {
	texts := []string{"a/b", "c/", "a/d/e", "f", "c/g/"}
	want := entries(texts...)
	given := entries(texts...)
	made := checkNew(t, given, none)
	all := func() {
		t.Helper()
		checkEntries(t, made, want)
		for _, s := range append(texts, "", "a", "a/d", "x", "scribbled") {
			checkPath(t, made, want, path(strings.TrimSuffix(s, "/")))
		}
	}
	scribble(given)
	all()
	scribble(made.Entries())
	all()
	for _, f := range want {
		got, _ := made.Get(f.Path)
		scribble(api.Tree{got})
		all()
	}
	for _, s := range []string{"", "a", "a/d", "c"} {
		l := made.List(path(s))
		for i := range l[:cap(l)] {
			l[:cap(l)][i] = "scribbled"
		}
		all()
	}
	// Neither do results share memory with each other.
	first, second := made.Entries(), made.Entries()
	got, _ := made.Get([]string{"a", "b"})
	scribble(first)
	if !slices.EqualFunc(second, want, same) || !same(got, want[0]) {
		t.Errorf("%s, %s", show(second...), show(got))
	}
	// No two slices of a result share memory, although those of the argument do.
	body, shared := []byte("body"), []string{"a", "b", "c"}
	made = checkNew(t, api.Tree{{Path: shared[:1], Dir: true}, {Path: shared[:2], Dir: true}, {Path: shared, Type: "x", Body: body}, {Path: shared[1:], Type: "x", Body: body}}, none)
	l := made.Entries()
	scribble(l[:1:1])
	scribble(l[2:3:3])
	if !slices.Equal(l[1].Path, []string{"a", "b"}) || !slices.Equal(l[3].Path, []string{"b", "c"}) || string(l[3].Body) != "body" {
		t.Error(show(l...))
	}
}

// Arguments stay as they are, also behind the ends of slices.
func TestArgumentsStay(t *testing.T) {
	segments := []string{"b", "a", "c", "Behind"}
	body := []byte("body behind")
	l := api.Tree{{Path: segments[:2], Type: "x", Body: body[:4]}, {Path: segments[1:3], Dir: true}, {Path: []string{".."}}}
	made := checkNew(t, l[:2], none)
	checkNew(t, l, 2)
	for n := range segments {
		checkPath(t, made, l[:2], segments[:n])
		checkPath(t, made, l[:2], segments[n:])
	}
	made.Entries()
	if !slices.Equal(segments, []string{"b", "a", "c", "Behind"}) || string(body) != "body behind" {
		t.Errorf("%q, %q", segments, body)
	}
	want := api.Tree{{Path: []string{"b", "a"}, Type: "x", Body: []byte("body")}, {Path: []string{"a", "c"}, Dir: true}, {Path: []string{".."}}}
	if !slices.EqualFunc(l, want, same) {
		t.Error(show(l...))
	}
}

// P19.1 to P19.3: long paths, long segments, and many entries.
func TestLong(t *testing.T) {
	const n = 1 << 16
	deep := strings.Split(strings.Repeat("a", n), "")
	made := checkNew(t, api.Tree{{Path: deep, Type: "x", Body: []byte("deep")}, entry("b")}, none)
	for _, k := range []int{1, 2, n / 2, n - 1} {
		if got := made.Kind(deep[:k]); got != tree.Dir {
			t.Errorf("Kind of %d = %d", k, got)
		}
		if got := made.List(deep[:k]); !slices.Equal(got, []string{"a"}) {
			t.Errorf("List of %d = %q", k, got)
		}
	}
	if got, ok := made.Get(deep); !ok || string(got.Body) != "deep" || made.Kind(append(deep, "a")) != tree.None || len(made.List(deep)) != 0 {
		t.Errorf("Get = %s, %t", show(got), ok)
	}
	checkNew(t, api.Tree{{Path: deep, Dir: true}, {Path: deep[:n-1], Type: "x"}}, 0)
	checkNew(t, api.Tree{{Path: deep[:n-1], Type: "x"}, {Path: deep, Dir: true}}, 1)

	long := strings.Repeat("b", 1<<22)
	l := api.Tree{{Path: []string{long}, Type: long, Body: []byte(long)}, {Path: []string{long + "c", long}, Dir: true}}
	check(t, l, []string{long[1:]}, []string{long + "c"}, []string{long + "d"})
	checkNew(t, api.Tree{l[0], {Path: []string{long + "/"}, Dir: true}}, 1)
	checkNew(t, api.Tree{l[0], {Path: []string{long + "d"}, Type: long + " "}}, 1)

	var many api.Tree
	var want []string
	for i := range 1 << 17 {
		many = append(many, api.File{Path: []string{"d", fmt.Sprint(i)}, Type: "x", Body: []byte{byte(i)}})
		want = append(want, fmt.Sprint(i))
	}
	slices.Sort(want)
	made = checkNew(t, many, none)
	if got := made.List([]string{"d"}); !slices.Equal(got, want) {
		t.Errorf("List: %d names", len(got))
	}
	for _, f := range many {
		if got, ok := made.Get(f.Path); !ok || !same(got, f) {
			t.Fatalf("Get(%q) = %s, %t", f.Path, show(got), ok)
		}
	}
	checkNew(t, append(many, entry("d/77")), 1<<17)
	checkNew(t, append(many, entry("d")), 0)
}

// P19.1 to P19.3: random trees.
func TestRandom(t *testing.T) {
	random := rand.New(rand.NewSource(19))
	segments := []string{"a", "b", "c", "A", "a.b", "...", "é", "\xff", "a b", "0"}
	wrong := []string{"", ".", "..", "a/b", "\\", "\x00"}
	types := []string{"text/plain", "x", "a\tb", "text/html; charset=utf-8", " x", "", "x\n"}
	right := 0
	for range 30000 {
		var l api.Tree
		var others [][]string
		for range random.Intn(8) {
			var p []string
			for range 1 + random.Intn(4) {
				p = append(p, segments[random.Intn(len(segments))])
			}
			if random.Intn(60) == 0 {
				p[random.Intn(len(p))] = wrong[random.Intn(len(wrong))]
			}
			f := api.File{Path: p, Dir: random.Intn(2) == 0}
			if !f.Dir {
				f.Type = types[random.Intn(4)]
				f.Body = []byte(fmt.Sprint(random.Intn(1000)))
			}
			if random.Intn(60) == 0 {
				f.Type = types[random.Intn(len(types))]
			}
			l = append(l, f)
			others = append(others, p[1:], append(slices.Clone(p[:len(p)-1]), segments[random.Intn(len(segments))]))
		}
		if wrongOf(l) == none {
			right++
		}
		check(t, l, others...)
	}
	if right < 5000 {
		t.Errorf("only %d right trees", right)
	}
}

// The functions may be called concurrently.
func TestConcurrent(t *testing.T) {
	given := entries("a/b", "c/", "a/d/e")
	var group sync.WaitGroup
	for range 8 {
		group.Go(func() {
			for range 200 {
				made, err := tree.New(given)
				if err != nil || made.Kind([]string{"a"}) != tree.Dir || !slices.Equal(made.List(nil), []string{"a", "c"}) || !tree.Plain("a") {
					t.Error(made, err)
				}
				if f, ok := made.Get([]string{"a", "d", "e"}); !ok || !same(f, given[2]) || len(made.Entries()) != 3 {
					t.Error(show(f), ok)
				}
			}
		})
	}
	group.Wait()
}
