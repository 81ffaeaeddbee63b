package reply_test

import (
	"bytes"
	"fmt"
	"math"
	"math/rand"
	"reflect"
	"slices"
	"strconv"
	"strings"
	"sync"
	"testing"

	"doorkeeper/api"
	"doorkeeper/reply"
)

// fields returns the fields of texts, each with a colon and a space after the name.
func fields(texts ...string) []api.Field {
	var l []api.Field
	for _, s := range texts {
		name, value, _ := strings.Cut(s, ": ")
		l = append(l, api.Field{Name: name, Value: value})
	}
	return l
}

// written returns a response whose fields are texts.
func written(s api.Status, body string, texts ...string) api.Response {
	return api.Response{Status: s, Fields: fields(texts...), Body: []byte(body)}
}

// same reports whether two responses are equal. Nil and empty slices are.
func same(a, b api.Response) bool {
	if a.Status != b.Status || len(a.Fields) != len(b.Fields) || string(a.Body) != string(b.Body) {
		return false
	}
	for i, f := range a.Fields {
		if f.Name != b.Fields[i].Name || f.Value != b.Fields[i].Value {
			return false
		}
	}
	return true
}

// check checks a response, and what Same says of it.
func check(t *testing.T, of string, got, want api.Response) {
	t.Helper()
	if !same(got, want) {
		t.Fatalf("%.200s is %.500q, want %.500q", of, fmt.Sprintf("%+v", got), fmt.Sprintf("%+v", want))
	}
	if !reply.Same(got, want) || !reply.Same(want, got) {
		t.Fatalf("%.200s is not the same as %.500q", of, fmt.Sprintf("%+v", want))
	}
}

// checkSafe checks that no value of a response has a line break or a zero byte.
func checkSafe(t *testing.T, of string, r api.Response) {
	t.Helper()
	for _, f := range r.Fields {
		if strings.ContainsAny(f.Value, "\r\n\x00") {
			t.Fatalf("%.200s has the value %.300q", of, f.Value)
		}
	}
}

// reasons are the reasons of layer 1.
var reasons = map[api.Status]string{
	200: "OK",
	301: "Moved Permanently",
	400: "Bad Request",
	401: "Unauthorized",
	404: "Not Found",
	405: "Method Not Allowed",
	413: "Content Too Large",
	414: "URI Too Long",
	431: "Request Header Fields Too Large",
	501: "Not Implemented",
	505: "HTTP Version Not Supported",
}

// shortOf returns the response Short by the table, with some fields before the others.
func shortOf(s api.Status, first ...api.Field) api.Response {
	body := reasons[s] + "\n"
	return api.Response{
		Status: s,
		Fields: append(slices.Clone(first), fields("Content-Type: text/plain", "Content-Length: "+strconv.Itoa(len(body)))...),
		Body:   []byte(body),
	}
}

// cleanedOf returns the cleaned text by the definition of layer 7.
func cleanedOf(s string) string {
	return strings.NewReplacer("\r", " ", "\n", " ", "\x00", " ").Replace(s)
}

// deniedOf returns the response Denied by the table.
func deniedOf(realm string) api.Response {
	var text []byte
	for _, c := range []byte(cleanedOf(realm)) {
		switch {
		case c < ' ' && c != '\t' || c == 127:
			return shortOf(401, fields(`WWW-Authenticate: Basic realm=""`)...)
		case c == '"' || c == '\\':
			text = append(text, '\\')
		}
		text = append(text, c)
	}
	return shortOf(401, api.Field{Name: "WWW-Authenticate", Value: `Basic realm="` + string(text) + `"`})
}

// fileOf returns the response File by the table.
func fileOf(kind string, body []byte) api.Response {
	return api.Response{
		Status: 200,
		Fields: []api.Field{{Name: "Content-Type", Value: kind}, {Name: "Content-Length", Value: strconv.Itoa(len(body))}},
		Body:   body,
	}
}

// checkText checks all functions with a text as an argument against the table.
func checkText(t *testing.T, s string) {
	t.Helper()
	moved, denied := reply.Moved(s), reply.Denied(s)
	check(t, "Moved("+strconv.Quote(s)+")", moved, shortOf(301, api.Field{Name: "Location", Value: cleanedOf(s)}))
	check(t, "Denied("+strconv.Quote(s)+")", denied, deniedOf(s))
	checkSafe(t, "Moved", moved)
	checkSafe(t, "Denied", denied)
	file := reply.File(api.File{Path: []string{s}, Type: s, Body: []byte(s)})
	check(t, "File of "+strconv.Quote(s), file, fileOf(s, []byte(s)))
	checkMethods(t, []string{s})
	checkMethods(t, []string{s, "GET", s})
}

// checkMethods checks the functions with methods as an argument against the table.
func checkMethods(t *testing.T, methods []string) {
	t.Helper()
	value := ""
	for i, m := range methods {
		if i > 0 {
			value += ", "
		}
		value += m
	}
	allow := api.Field{Name: "Allow", Value: value}
	check(t, fmt.Sprintf("Wrong(%.200q)", methods), reply.Wrong(methods), shortOf(405, allow))
	check(t, fmt.Sprintf("Options(%.200q)", methods), reply.Options(methods), api.Response{Status: 200, Fields: append([]api.Field{allow}, fields("Content-Length: 0")...)})
}

// eachList calls a function for all lists of up to n elements of some pieces.
func eachList[T any](pieces []T, n int, call func(l []T)) {
	var list []T
	var extend func()
	extend = func() {
		call(slices.Clone(list))
		if len(list) == n {
			return
		}
		for _, p := range pieces {
			list = append(list, p)
			extend()
			list = list[:len(list)-1]
		}
	}
	extend()
}

// P25.1: the chapter's example.
func TestExample(t *testing.T) {
	check(t, "Short(404)", reply.Short(404), written(404, "Not Found\n", "Content-Type: text/plain", "Content-Length: 10"))
}

// P25.1: responses with a reason are written out.
func TestShort(t *testing.T) {
	const plain = "Content-Type: text/plain"
	for _, want := range []api.Response{
		written(200, "OK\n", plain, "Content-Length: 3"),
		written(301, "Moved Permanently\n", plain, "Content-Length: 18"),
		written(400, "Bad Request\n", plain, "Content-Length: 12"),
		written(401, "Unauthorized\n", plain, "Content-Length: 13"),
		written(404, "Not Found\n", plain, "Content-Length: 10"),
		written(405, "Method Not Allowed\n", plain, "Content-Length: 19"),
		written(413, "Content Too Large\n", plain, "Content-Length: 18"),
		written(414, "URI Too Long\n", plain, "Content-Length: 13"),
		written(431, "Request Header Fields Too Large\n", plain, "Content-Length: 32"),
		written(501, "Not Implemented\n", plain, "Content-Length: 16"),
		written(505, "HTTP Version Not Supported\n", plain, "Content-Length: 27"),
	} {
		check(t, fmt.Sprintf("Short(%d)", want.Status), reply.Short(want.Status), want)
	}
}

// P25.1: a status that is not listed has no reason.
func TestShortOther(t *testing.T) {
	for _, s := range []api.Status{math.MinInt, -404, -1, 0, 1, 99, 100, 204, 302, 403, 1000, 4040, 1<<32 + 404, math.MaxInt} {
		check(t, fmt.Sprintf("Short(%d)", s), reply.Short(s), written(s, "\n", "Content-Type: text/plain", "Content-Length: 1"))
	}
	for s := api.Status(-1); s < 1200; s++ {
		got := reply.Short(s)
		check(t, fmt.Sprintf("Short(%d)", s), got, shortOf(s))
		checkSafe(t, fmt.Sprintf("Short(%d)", s), got)
	}
}

// P25.1: files are written out.
func TestFile(t *testing.T) {
	every := make([]byte, 256)
	for i := range every {
		every[i] = byte(i)
	}
	for _, c := range []struct {
		f    api.File
		want api.Response
	}{
		{api.File{Path: []string{"a"}, Type: "text/html", Body: []byte("hello")}, written(200, "hello", "Content-Type: text/html", "Content-Length: 5")},
		{api.File{Path: []string{"a"}, Type: "image/png", Body: every}, written(200, string(every), "Content-Type: image/png", "Content-Length: 256")},
		{api.File{Type: "a/b; c=\"d\"\t\xff", Body: []byte("\r\n")}, written(200, "\r\n", "Content-Type: a/b; c=\"d\"\t\xff", "Content-Length: 2")},
		{api.File{Type: "x"}, written(200, "", "Content-Type: x", "Content-Length: 0")},
		{api.File{Type: "x", Body: []byte{}}, written(200, "", "Content-Type: x", "Content-Length: 0")},
		{api.File{Type: "x", Body: []byte{0}}, written(200, "\x00", "Content-Type: x", "Content-Length: 1")},
		{api.File{}, written(200, "", "Content-Type: ", "Content-Length: 0")},
		{api.File{Body: []byte("ab")}, written(200, "ab", "Content-Type: ", "Content-Length: 2")},
		// The type is not cleaned, and entries for directories are not different.
		{api.File{Type: "a\r\nb\x00", Body: []byte("ab")}, written(200, "ab", "Content-Type: a\r\nb\x00", "Content-Length: 2")},
		{api.File{Path: []string{"a"}, Dir: true, Type: "x", Body: []byte("ab")}, written(200, "ab", "Content-Type: x", "Content-Length: 2")},
	} {
		check(t, fmt.Sprintf("File(%.200q)", fmt.Sprint(c.f)), reply.File(c.f), c.want)
	}
}

// P25.1: bodies of all lengths around powers of ten, and a large one.
func TestFileLengths(t *testing.T) {
	for _, n := range []int{1, 9, 10, 11, 99, 100, 101, 999, 1000, 1001, 9999, 10000, 1 << 24} {
		body := bytes.Repeat([]byte{'a'}, n)
		body[n-1] = 'z'
		check(t, fmt.Sprint("File of the length ", n), reply.File(api.File{Type: "x", Body: body}), fileOf("x", body))
	}
}

// P25.1: locations are written out.
func TestMoved(t *testing.T) {
	for _, c := range []struct{ location, value string }{
		{"/docs/", "/docs/"},
		{"", ""},
		{"/a/?x=1", "/a/?x=1"},
		{"http://a.example/b%20c/", "http://a.example/b%20c/"},
		{"/a\r\nSet-Cookie: b", "/a  Set-Cookie: b"},
		{"\x00/a\x00", " /a "},
		{"\r\n\x00", "   "},
		{" /a\t", " /a\t"},
		{`/"\`, `/"\`},
		{"/\x01\x7f\x80\xff\u00e4", "/\x01\x7f\x80\xff\u00e4"},
	} {
		want := written(301, "Moved Permanently\n", "Location: "+c.value, "Content-Type: text/plain", "Content-Length: 18")
		check(t, fmt.Sprintf("Moved(%q)", c.location), reply.Moved(c.location), want)
	}
}

// P25.1: realms are written out.
func TestDenied(t *testing.T) {
	for _, c := range []struct{ realm, value string }{
		{"docs", `Basic realm="docs"`},
		{"", `Basic realm=""`},
		{"the docs", `Basic realm="the docs"`},
		{" docs\t", "Basic realm=\" docs\t\""},
		{`a"b`, `Basic realm="a\"b"`},
		{`a\b`, `Basic realm="a\\b"`},
		{`"`, `Basic realm="\""`},
		{`\"\`, `Basic realm="\\\"\\"`},
		{"\x80\xff\u00e4", "Basic realm=\"\x80\xff\u00e4\""},
		// These can be quoted, once they are cleaned.
		{"a\rb", `Basic realm="a b"`},
		{"a\r\nb", `Basic realm="a  b"`},
		{"\x00", `Basic realm=" "`},
		{"\"\n\\", `Basic realm="\" \\"`},
		// These cannot.
		{"a\x01b", `Basic realm=""`},
		{"\x7f", `Basic realm=""`},
		{"\x1f", `Basic realm=""`},
		{"\v", `Basic realm=""`},
		{"\b", `Basic realm=""`},
		{"a\r\n\x0e", `Basic realm=""`},
		{"docs\x7f", `Basic realm=""`},
	} {
		want := written(401, "Unauthorized\n", "WWW-Authenticate: "+c.value, "Content-Type: text/plain", "Content-Length: 13")
		check(t, fmt.Sprintf("Denied(%q)", c.realm), reply.Denied(c.realm), want)
	}
}

// P25.1: methods are written out.
func TestMethods(t *testing.T) {
	for _, c := range []struct {
		methods []string
		value   string
	}{
		{[]string{"GET", "HEAD", "OPTIONS"}, "GET, HEAD, OPTIONS"},
		{[]string{"GET", "OPTIONS"}, "GET, OPTIONS"},
		{[]string{"OPTIONS", "GET"}, "OPTIONS, GET"},
		{[]string{"GET"}, "GET"},
		{[]string{"GET", "GET"}, "GET, GET"},
		{nil, ""},
		{[]string{}, ""},
		{[]string{""}, ""},
		{[]string{"", ""}, ", "},
		{[]string{"get", " b ", "c,d"}, "get,  b , c,d"},
		{[]string{"a\r\nb"}, "a\r\nb"},
	} {
		check(t, fmt.Sprintf("Wrong(%q)", c.methods), reply.Wrong(c.methods), written(405, "Method Not Allowed\n", "Allow: "+c.value, "Content-Type: text/plain", "Content-Length: 19"))
		check(t, fmt.Sprintf("Options(%q)", c.methods), reply.Options(c.methods), written(200, "", "Allow: "+c.value, "Content-Length: 0"))
	}
	eachList([]string{"GET", "HEAD", "OPTIONS", "", "a, b"}, 5, func(l []string) { checkMethods(t, l) })
}

// P25.1, P25.4: each byte in each place of a text, and all short texts of some pieces.
func TestTexts(t *testing.T) {
	for n := range 256 {
		c := string([]byte{byte(n)})
		for _, s := range []string{c, c + "ab", "a" + c + "b", "ab" + c, c + c, `\` + c, c + `"`} {
			checkText(t, s)
		}
	}
	eachList([]string{"a", `"`, `\`, "\r", "\n", "\x00", "\x01", "\x7f", "\xff", " "}, 4, func(l []string) { checkText(t, strings.Join(l, "")) })
	for _, s := range []string{"\u010a", "\u0a0d", "\u2028", "\u0085", strings.Repeat("a\"\\\r", 1<<16), strings.Repeat("a", 1<<20) + "\x01"} {
		checkText(t, s)
	}
}

// P25.4: the values are safe for all locations and realms, and for types and methods that are.
func TestSafe(t *testing.T) {
	eachList([]string{"a", "\r", "\n", "\x00", `"`, "\x02"}, 5, func(l []string) {
		s := strings.Join(l, "")
		checkSafe(t, "Moved", reply.Moved(s))
		checkSafe(t, "Denied", reply.Denied(s))
		safe := strings.NewReplacer("\r", "", "\n", "\t", "\x00", "\x01").Replace(s)
		checkSafe(t, "File", reply.File(api.File{Type: safe, Body: []byte(s)}))
		checkSafe(t, "Wrong", reply.Wrong([]string{safe, "GET", safe}))
		checkSafe(t, "Options", reply.Options([]string{safe, "GET", safe}))
	})
}

// P25.4: what is hidden and what is missing have the same response, also when it is finished.
func TestHidden(t *testing.T) {
	for range 3 {
		missing, hidden := reply.Short(api.NotFound), reply.Short(404)
		check(t, "Short(404)", missing, hidden)
		for _, method := range []string{"GET", "HEAD", "OPTIONS", "POST"} {
			for minor := range 2 {
				for _, keeps := range []bool{false, true} {
					check(t, "a finished response", reply.Finish(missing, method, minor, keeps), reply.Finish(hidden, method, minor, keeps))
				}
			}
		}
	}
}

// finishedOf returns the finished response by the definition.
func finishedOf(r api.Response, method string, minor int, keeps bool) api.Response {
	want := api.Response{Status: r.Status, Fields: slices.Clone(r.Fields), Body: slices.Clone(r.Body)}
	if !keeps {
		want.Fields = append(want.Fields, api.Field{Name: "Connection", Value: "close"})
	}
	if keeps && minor == 0 {
		want.Fields = append(want.Fields, api.Field{Name: "Connection", Value: "keep-alive"})
	}
	if method == "HEAD" {
		want.Body = nil
	}
	return want
}

// responses returns many responses, those of the table and others.
func responses() []api.Response {
	return []api.Response{
		{},
		reply.Short(404),
		reply.File(api.File{Type: "text/html", Body: []byte("hello")}),
		reply.File(api.File{Type: "x"}),
		reply.Moved("/a/"),
		reply.Denied("docs"),
		reply.Wrong([]string{"GET", "OPTIONS"}),
		reply.Options([]string{"GET", "HEAD", "OPTIONS"}),
		written(200, "a"),
		written(-1, "", "a: b"),
		written(math.MaxInt, "a\r\n\x00", "Content-Length: 7", "Content-Length: x"),
		written(200, "a", "Connection: close"),
		written(200, "a", "Connection: keep-alive", "x: y"),
		written(200, "a", "connection: close", "Connection: close"),
		written(404, "b", ": ", "a\r\n: \x00", ": "),
		written(0, strings.Repeat("a", 1<<16), slices.Repeat([]string{"a: b"}, 1<<10)...),
	}
}

// P25.2: finished responses are written out.
func TestFinish(t *testing.T) {
	r := written(200, "abc", "Content-Type: x", "Content-Length: 3")
	for _, c := range []struct {
		method string
		minor  int
		keeps  bool
		want   api.Response
	}{
		{"GET", 1, true, written(200, "abc", "Content-Type: x", "Content-Length: 3")},
		{"GET", 1, false, written(200, "abc", "Content-Type: x", "Content-Length: 3", "Connection: close")},
		{"GET", 0, true, written(200, "abc", "Content-Type: x", "Content-Length: 3", "Connection: keep-alive")},
		{"GET", 0, false, written(200, "abc", "Content-Type: x", "Content-Length: 3", "Connection: close")},
		{"HEAD", 1, true, written(200, "", "Content-Type: x", "Content-Length: 3")},
		{"HEAD", 1, false, written(200, "", "Content-Type: x", "Content-Length: 3", "Connection: close")},
		{"HEAD", 0, true, written(200, "", "Content-Type: x", "Content-Length: 3", "Connection: keep-alive")},
		{"HEAD", 0, false, written(200, "", "Content-Type: x", "Content-Length: 3", "Connection: close")},
		// Every other minor is as 1.
		{"GET", 2, true, written(200, "abc", "Content-Type: x", "Content-Length: 3")},
		{"GET", -1, true, written(200, "abc", "Content-Type: x", "Content-Length: 3")},
		{"HEAD", 9, false, written(200, "", "Content-Type: x", "Content-Length: 3", "Connection: close")},
		// Every other method has a body, also in lower case.
		{"OPTIONS", 1, true, written(200, "abc", "Content-Type: x", "Content-Length: 3")},
		{"POST", 0, true, written(200, "abc", "Content-Type: x", "Content-Length: 3", "Connection: keep-alive")},
		{"head", 1, true, written(200, "abc", "Content-Type: x", "Content-Length: 3")},
		{"", 1, false, written(200, "abc", "Content-Type: x", "Content-Length: 3", "Connection: close")},
	} {
		check(t, fmt.Sprintf("Finish(r, %q, %d, %t)", c.method, c.minor, c.keeps), reply.Finish(r, c.method, c.minor, c.keeps), c.want)
	}
	check(t, "a zero response", reply.Finish(api.Response{}, "GET", 0, true), written(0, "", "Connection: keep-alive"))
	check(t, "a zero response", reply.Finish(api.Response{}, "HEAD", 1, true), api.Response{})
}

// P25.2: all responses, methods, minors and connections.
func TestFinishAll(t *testing.T) {
	methods := []string{"GET", "HEAD", "OPTIONS", "POST", "PUT", "DELETE", "PATCH", "TRACE", "CONNECT", "", "head", "Head", "HEA", "HEADER", "HEAD ", " HEAD", "HEAD\x00", "AHEAD", "\u041dEAD"}
	minors := []int{0, 1, 2, 9, 10, 48, 256, -1, 1 << 32, math.MinInt, math.MaxInt}
	for i, r := range responses() {
		for _, method := range methods {
			for _, minor := range minors {
				for _, keeps := range []bool{false, true} {
					of := fmt.Sprintf("the response %d, finished for %q, %d, %t", i, method, minor, keeps)
					once := finishedOf(r, method, minor, keeps)
					check(t, of, reply.Finish(r, method, minor, keeps), once)
					check(t, of+" twice", reply.Finish(once, method, minor, keeps), finishedOf(once, method, minor, keeps))
				}
			}
		}
	}
}

// P25.3: responses that differ in one place are written out.
func TestSame(t *testing.T) {
	r := written(200, "abc", "a: b", "c: d")
	for _, other := range []api.Response{
		{},
		written(201, "abc", "a: b", "c: d"),
		written(-200, "abc", "a: b", "c: d"),
		written(0, "abc", "a: b", "c: d"),
		written(1<<32+200, "abc", "a: b", "c: d"),
		written(200, "", "a: b", "c: d"),
		written(200, "ab", "a: b", "c: d"),
		written(200, "abcd", "a: b", "c: d"),
		written(200, "abC", "a: b", "c: d"),
		written(200, "Abc", "a: b", "c: d"),
		written(200, "abc\x00", "a: b", "c: d"),
		written(200, "abc"),
		written(200, "abc", "a: b"),
		written(200, "abc", "c: d"),
		written(200, "abc", "c: d", "a: b"),
		written(200, "abc", "a: b", "c: d", "c: d"),
		written(200, "abc", "a: b", "a: b", "c: d"),
		written(200, "abc", "a: b", "c: d", ": "),
		written(200, "abc", "A: b", "c: d"),
		written(200, "abc", "a: B", "c: d"),
		written(200, "abc", "a: b", "C: d"),
		written(200, "abc", "a: b", "c: D"),
		written(200, "abc", "a: b ", "c: d"),
		written(200, "abc", "a: b", "c: "),
		written(200, "abc", "a: b", ": d"),
		written(200, "abc", "a: d", "c: b"),
		written(200, "abc", "b: a", "d: c"),
		written(200, "abc", "a: b, c: d"),
		written(200, "abc", "ab: ", "c: d"),
	} {
		if reply.Same(r, other) || reply.Same(other, r) {
			t.Errorf("%+v is the same as %+v", other, r)
		}
	}
	if !reply.Same(r, r) || !reply.Same(r, written(200, "abc", "a: b", "c: d")) {
		t.Error("equal responses are not the same")
	}
	if !reply.Same(api.Response{}, api.Response{Fields: []api.Field{}, Body: []byte{}}) || !reply.Same(api.Response{Fields: []api.Field{}, Body: []byte{}}, api.Response{}) {
		t.Error("empty slices are not the same as nil")
	}
}

// P25.3: all pairs of many responses.
func TestSameAll(t *testing.T) {
	l := responses()
	for _, s := range []api.Status{0, 200} {
		for _, body := range []string{"", "a", "b", "ab"} {
			eachList([]string{": ", "a: ", ": a", "a: b", "A: b"}, 2, func(texts []string) { l = append(l, written(s, body, texts...)) })
		}
	}
	for _, a := range l {
		for _, b := range l {
			if got, want := reply.Same(a, b), same(a, b); got != want {
				t.Fatalf("Same(%.300q, %.300q) = %t", fmt.Sprint(a), fmt.Sprint(b), got)
			}
		}
	}
}

// P25.3: a difference in each place of long responses.
func TestSameLong(t *testing.T) {
	const n = 300
	long := func() api.Response {
		return written(200, strings.Repeat("a", n), slices.Repeat([]string{"name: value"}, n)...)
	}
	r := long()
	for i := range n {
		body, name, value := long(), long(), long()
		body.Body[i]++
		name.Fields[i].Name = "nam"
		value.Fields[i].Value = "valuE"
		for _, other := range []api.Response{body, name, value} {
			if reply.Same(r, other) || reply.Same(other, r) {
				t.Fatal("a difference at ", i)
			}
		}
	}
	if !reply.Same(r, long()) {
		t.Error("equal responses are not the same")
	}
}

// P25.1 to P25.3: random arguments.
func TestRandom(t *testing.T) {
	random := rand.New(rand.NewSource(25))
	text := func() string {
		b := make([]byte, random.Intn(12))
		for i := range b {
			b[i] = byte(random.Intn(256))
			if random.Intn(2) == 0 {
				b[i] = "ab\"\\\r\n\x00 "[random.Intn(8)]
			}
		}
		return string(b)
	}
	for range 20000 {
		checkText(t, text())
		r := api.Response{Status: api.Status(random.Intn(1000)), Body: []byte(text())}
		for range random.Intn(5) {
			r.Fields = append(r.Fields, api.Field{Name: text(), Value: text()})
		}
		method := []string{"GET", "HEAD", text()}[random.Intn(3)]
		minor, keeps := random.Intn(3), random.Intn(2) == 0
		check(t, "a finished response", reply.Finish(r, method, minor, keeps), finishedOf(r, method, minor, keeps))
	}
}

// overwrite changes all of a response, also behind the ends of its slices.
func overwrite(r api.Response) {
	for i := range r.Fields[:cap(r.Fields)] {
		r.Fields[:cap(r.Fields)][i] = api.Field{Name: "changed", Value: "changed"}
	}
	for i := range r.Body[:cap(r.Body)] {
		r.Body[:cap(r.Body)][i] = 'X'
	}
}

// spareResponse returns a response whose slices have unused capacity, and these slices with all of it.
func spareResponse(fieldCount, byteCount int) (api.Response, []api.Field, []byte) {
	all, body := fields("a: b", "c: d", "spare: 1", "spare: 2"), []byte("body and spare")
	return api.Response{Status: 200, Fields: all[:fieldCount], Body: body[:byteCount]}, all, body
}

// P25.5: Finish leaves its argument as it is, also behind the ends of slices, and its result has memory of its own.
func TestFinishOwn(t *testing.T) {
	for fieldCount := range 5 {
		for _, byteCount := range []int{0, 4, 14} {
			for _, method := range []string{"GET", "HEAD"} {
				for minor := range 2 {
					for _, keeps := range []bool{false, true} {
						r, all, body := spareResponse(fieldCount, byteCount)
						want := finishedOf(r, method, minor, keeps)
						got, other := reply.Finish(r, method, minor, keeps), reply.Finish(r, method, minor, keeps)
						overwrite(got)
						fresh, freshFields, freshBody := spareResponse(fieldCount, byteCount)
						if !slices.Equal(all, freshFields) || !bytes.Equal(body, freshBody) || !reflect.DeepEqual(r, fresh) {
							t.Fatal("the argument has changed: ", all, string(body))
						}
						overwrite(r)
						check(t, "a finished response", other, want)
					}
				}
			}
		}
	}
}

// P25.5: File leaves its argument as it is, also behind the ends of slices, and its result has memory of its own.
func TestFileOwn(t *testing.T) {
	for _, n := range []int{0, 1, 4, 14} {
		whole := []byte("body and spare")
		path := []string{"a", "b", "spare"}
		f := api.File{Path: path[:2], Type: "x", Body: whole[:n]}
		got, other := reply.File(f), reply.File(f)
		overwrite(got)
		if string(whole) != "body and spare" || !slices.Equal(path, []string{"a", "b", "spare"}) {
			t.Fatal("the argument has changed: ", string(whole), path)
		}
		clear(whole)
		check(t, "the response with a file", other, fileOf("x", []byte("body and spare")[:n]))
	}
}

// P25.5: Wrong, Options and Same leave their arguments as they are.
func TestArgumentsStay(t *testing.T) {
	all := []string{"GET", "HEAD", "spare", "spare"}
	for n := range 5 {
		overwrite(reply.Wrong(all[:n]))
		overwrite(reply.Options(all[:n]))
		checkMethods(t, all[:n])
	}
	if !slices.Equal(all, []string{"GET", "HEAD", "spare", "spare"}) {
		t.Error(all)
	}
	methods := []string{"GET", "HEAD"}
	wrong, options := reply.Wrong(methods), reply.Options(methods)
	clear(methods)
	check(t, "Wrong", wrong, shortOf(405, fields("Allow: GET, HEAD")...))
	check(t, "Options", options, written(200, "", "Allow: GET, HEAD", "Content-Length: 0"))
	for fieldCount := range 5 {
		a, allFields, body := spareResponse(fieldCount, 4)
		b, _, _ := spareResponse(2, 4)
		if reply.Same(a, b) != (fieldCount == 2) {
			t.Error("Same looks at ", fieldCount, " fields")
		}
		_, freshFields, freshBody := spareResponse(fieldCount, 4)
		if !slices.Equal(allFields, freshFields) || !bytes.Equal(body, freshBody) {
			t.Error("the argument has changed: ", allFields, string(body))
		}
	}
}

// P25.5: results share no memory with each other, and none is kept.
func TestResultsOwn(t *testing.T) {
	makers := []func() api.Response{
		func() api.Response { return reply.Short(404) },
		func() api.Response { return reply.Short(0) },
		func() api.Response { return reply.Moved("/a/") },
		func() api.Response { return reply.Denied("a\x01") },
		func() api.Response { return reply.Denied("docs") },
		func() api.Response { return reply.Wrong([]string{"GET"}) },
		func() api.Response { return reply.Options([]string{"GET"}) },
		func() api.Response { return reply.File(api.File{Type: "x", Body: []byte("a")}) },
		func() api.Response { return reply.Finish(reply.Short(404), "GET", 0, true) },
		func() api.Response { return reply.Finish(reply.Short(404), "HEAD", 0, false) },
	}
	var all []api.Response
	for range 2 {
		for _, maker := range makers {
			all = append(all, maker())
		}
	}
	for i, r := range all[:len(makers)] {
		overwrite(r)
		for j, maker := range makers {
			if other := all[len(makers)+j]; !same(other, maker()) {
				t.Fatalf("%+v has changed with the response %d", other, i)
			}
		}
	}
	check(t, "Short(404)", reply.Short(404), shortOf(404))
	check(t, "Denied", reply.Denied("docs"), deniedOf("docs"))
}

// The functions may be called concurrently.
func TestConcurrent(t *testing.T) {
	r, all, _ := spareResponse(2, 4)
	methods := []string{"GET", "OPTIONS"}
	var group sync.WaitGroup
	for range 8 {
		group.Go(func() {
			for range 300 {
				got := reply.Finish(r, "GET", 0, true)
				if !reply.Same(got, finishedOf(r, "GET", 0, true)) || !reply.Same(reply.Short(404), shortOf(404)) || !reply.Same(reply.Wrong(methods), shortOf(405, fields("Allow: GET, OPTIONS")...)) {
					t.Errorf("%+v", got)
					return
				}
				overwrite(got)
				overwrite(reply.Denied("docs"))
				overwrite(reply.File(api.File{Body: r.Body}))
			}
		})
	}
	group.Wait()
	if !slices.Equal(all, fields("a: b", "c: d", "spare: 1", "spare: 2")) {
		t.Error(all)
	}
}
