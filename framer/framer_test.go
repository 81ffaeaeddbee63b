package framer_test

import (
	"bytes"
	"errors"
	"math"
	"math/rand"
	"slices"
	"strconv"
	"strings"
	"sync"
	"testing"

	"doorkeeper/api"
	"doorkeeper/chunked"
	"doorkeeper/fault"
	"doorkeeper/field"
	"doorkeeper/framer"
	"doorkeeper/head"
	"doorkeeper/reqline"
)

// wide are limits that are greater than all requests of these tests.
var wide = api.Limits{Line: 1 << 30, Head: 1 << 30, Fields: 1 << 30, Body: 1 << 30}

// greatest are the greatest limits.
var greatest = api.Limits{Line: math.MaxInt, Head: math.MaxInt, Fields: math.MaxInt, Body: math.MaxInt}

// done is a request, and the number of bytes up to its end.
type done struct {
	request api.Request
	end     int
}

// outcome tells what becomes of some bytes: the requests, and the status and the place of the first wrong byte, if there is one (status 0 otherwise).
type outcome struct {
	requests []done
	status   api.Status
	at       int
}

// err returns the error after some of the bytes.
func (o outcome) err(fed int) error {
	if o.status == 0 || fed <= o.at {
		return nil
	}
	return api.Fault{Status: o.status, At: o.at}
}

// taken returns how many of some bytes are taken.
func (o outcome) taken(fed int) int {
	if o.err(fed) != nil {
		return o.at + 1
	}
	return fed
}

// open reports whether bytes are taken after the last request that some bytes complete.
func (o outcome) open(fed int) bool {
	end := 0
	for _, d := range o.requests {
		if d.end <= fed {
			end = d.end
		}
	}
	return o.taken(fed) > end
}

// between returns the requests whose last byte is after one number of bytes and up to another.
func (o outcome) between(from, to int) []api.Request {
	var l []api.Request
	for _, d := range o.requests {
		if from < d.end && d.end <= to {
			l = append(l, d.request)
		}
	}
	return l
}

// step is what comes next in some bytes: a part that ends before the place at, or a wrong byte there, or the end of the bytes.
type step struct {
	at     int
	status api.Status
	ends   bool
}

func goOn(at int) step { return step{at: at} }

func wrong(status api.Status, at int) step { return step{at: at, status: status} }

// stops reports whether no part ends with the step.
func (p step) stops() bool { return p.ends || p.status != 0 }

// lineOf returns the line at a place of a string by the definition of layer 9; a line that is too long has a status.
func lineOf(s string, at, most int, long api.Status) (string, step) {
	n := strings.IndexAny(s[at:], "\r\n")
	if n < 0 {
		n = len(s) - at
	}
	line, rest := s[at:at+n], s[at+n:]
	switch {
	case n > max(most, 0):
		return "", wrong(long, at+max(most, 0))
	case rest == "" || rest == "\r":
		return "", step{ends: true}
	case rest[0] == '\n':
		return "", wrong(400, at+n)
	case rest[1] == '\n':
		return line, goOn(at + n + 2)
	}
	return "", wrong(400, at+n+1)
}

// statusOf returns the status of an error that has one.
func statusOf(err error) api.Status {
	s, ok := fault.Status(err)
	if !ok {
		panic("no status")
	}
	return s
}

// firstOf returns the request line at a place of a string, after empty lines.
func firstOf(s string, at int, l api.Limits) (reqline.Line, step) {
	for {
		line, p := lineOf(s, at, l.Line, 414)
		if p.stops() {
			return reqline.Line{}, p
		}
		if line != "" {
			first, err := reqline.Parse(line)
			if err != nil {
				return first, wrong(statusOf(err), p.at-1)
			}
			return first, p
		}
		at = p.at
	}
}

// fieldsOf returns the fields at a place of a string, up to an empty line.
func fieldsOf(s string, at int, l api.Limits) ([]api.Field, step) {
	var fields []api.Field
	size := 0
	for {
		line, p := lineOf(s, at, l.Line, 431)
		if p.stops() || line == "" {
			return fields, p
		}
		size += len(line) + 2
		f, err := field.Parse(line)
		switch {
		case len(fields)+1 > max(l.Fields, 0), size > max(l.Head, 0):
			return nil, wrong(431, p.at-1)
		case err != nil:
			return nil, wrong(400, p.at-1)
		}
		fields = append(fields, f)
		at = p.at
	}
}

// bodyOf returns the body at a place of a string that follows a head.
func bodyOf(s string, at int, h head.Head, l api.Limits) (string, step) {
	framing, err := head.Check(h, max(l.Body, 0))
	switch {
	case err != nil:
		return "", wrong(statusOf(err), at-1)
	case framing.Kind == head.Chunked:
		data, n, err := chunked.Decode([]byte(s[at:]), l)
		if err == nil {
			return string(data), goOn(at + n)
		}
		from, _ := fault.At(err)
		if at+from == len(s) {
			return "", step{ends: true}
		}
		return "", wrong(statusOf(err), at+from)
	case framing.Size > len(s)-at:
		return "", step{ends: true}
	}
	return s[at : at+framing.Size], goOn(at + framing.Size)
}

// outcomeOf returns what becomes of a string by the definition.
func outcomeOf(s string, l api.Limits) outcome {
	var o outcome
	at := 0
	for {
		var h head.Head
		var body string
		var p step
		h.Line, p = firstOf(s, at, l)
		if !p.stops() {
			h.Fields, p = fieldsOf(s, p.at, l)
		}
		if !p.stops() {
			body, p = bodyOf(s, p.at, h, l)
		}
		if p.stops() {
			o.status, o.at = p.status, p.at
			return o
		}
		at = p.at
		o.requests = append(o.requests, done{request(h.Line.Method, h.Line.Target, h.Line.Minor, body, h.Fields...), at})
	}
}

// request returns a request.
func request(method, target string, minor int, body string, fields ...api.Field) api.Request {
	return api.Request{Method: method, Target: target, Minor: minor, Fields: fields, Body: []byte(body)}
}

// same reports whether two lists have the same requests.
func same(a, b []api.Request) bool {
	return slices.EqualFunc(a, b, func(x, y api.Request) bool {
		return x.Method == y.Method && x.Target == y.Target && x.Minor == y.Minor && slices.Equal(x.Fields, y.Fields) && bytes.Equal(x.Body, y.Body)
	})
}

// checkState checks all methods but Feed after some bytes.
func checkState(t *testing.T, f *framer.Framer, s string, l api.Limits, want outcome, fed int) {
	t.Helper()
	if got := f.Taken(); got != want.taken(fed) {
		t.Fatalf("%+v: Taken() = %d after %d bytes of %.300q, want %d", l, got, fed, s, want.taken(fed))
	}
	if got := f.Open(); got != want.open(fed) {
		t.Fatalf("%+v: Open() = %v after %d bytes of %.300q", l, got, fed, s)
	}
	if got := f.Err(); got != want.err(fed) {
		t.Fatalf("%+v: Err() = %#v after %d bytes of %.300q, want %#v", l, got, fed, s, want.err(fed))
	}
}

// checkFeed checks all methods for chunks that end at some places of a string, and at its end.
func checkFeed(t *testing.T, s string, l api.Limits, want outcome, places ...int) {
	t.Helper()
	f := framer.New(l)
	checkState(t, f, s, l, want, 0)
	from := 0
	for _, to := range append(places, len(s)) {
		if got := f.Feed([]byte(s[from:to])); !same(got, want.between(from, to)) {
			t.Fatalf("%+v: Feed of the bytes from %d to %d of %.300q = %+v, want %+v", l, from, to, s, got, want.between(from, to))
		}
		checkState(t, f, s, l, want, to)
		from = to
	}
	if want.status == 0 {
		return
	}
	for range 2 {
		if got := f.Feed([]byte("\r\nGET / HTTP/1.0\r\n\r\n")); len(got) > 0 {
			t.Fatalf("%+v: Feed after %.300q = %+v", l, s, got)
		}
		checkState(t, f, s, l, want, len(s))
	}
}

// checkSplit checks Split.
func checkSplit(t *testing.T, s string, l api.Limits, want outcome) {
	t.Helper()
	got, err := framer.Split([]byte(s), l)
	if all := want.between(0, len(s)); !same(got, all) || err != want.err(len(s)) {
		t.Fatalf("Split(%.300q, %+v) = %+v, %#v, want %+v, %#v", s, l, got, err, all, want.err(len(s)))
	}
}

// checkWant checks all functions that take bytes, for all bytes at once and one by one.
func checkWant(t *testing.T, s string, l api.Limits, want outcome) {
	t.Helper()
	checkSplit(t, s, l, want)
	checkFeed(t, s, l, want)
	each := make([]int, len(s))
	for i := range each {
		each[i] = i
	}
	checkFeed(t, s, l, want, each...)
}

// checkOf checks them against the definition.
func checkOf(t *testing.T, s string, l api.Limits) {
	t.Helper()
	checkWant(t, s, l, outcomeOf(s, l))
}

// checkWritten checks them, and the definition as well, against an outcome that is written out: the place after each request, the status and the place of the wrong byte.
func checkWritten(t *testing.T, s string, l api.Limits, want outcome) {
	t.Helper()
	got := outcomeOf(s, l)
	if !same(got.between(0, len(s)), want.between(0, len(s))) || got.status != want.status || got.at != want.at {
		t.Errorf("the definition gives %+v for %.300q, want %+v", got, s, want)
	}
	checkWant(t, s, l, want)
}

// checkAt checks that a string has only complete requests, or else a first wrong byte; each byte before it has none.
func checkAt(t *testing.T, s string, l api.Limits, count int, status api.Status, at int) {
	t.Helper()
	got, err := framer.Split([]byte(s), l)
	var want error
	if status != 0 {
		want = api.Fault{Status: status, At: at}
	}
	if len(got) != count || err != want {
		t.Errorf("Split(%.300q, %+v) = %d requests, %#v, want %d, %#v", s, l, len(got), err, count, want)
	}
	if before, err := framer.Split([]byte(s)[:at], l); status != 0 && (len(before) != count || err != nil) {
		t.Errorf("Split(%.300q, %+v) = %d requests, %#v", s[:at], l, len(before), err)
	}
	checkOf(t, s, l)
}

// eachText calls a function for all texts of up to n pieces.
func eachText(pieces []string, n int, call func(s string)) {
	call("")
	if n == 0 {
		return
	}
	for _, piece := range pieces {
		eachText(pieces, n-1, func(s string) {
			call(piece + s)
		})
	}
}

func TestNil(t *testing.T) {
	var f *framer.Framer
	for _, s := range []string{"", "x", "\n", "GET / HTTP/1.0\r\n\r\n"} {
		if got := f.Feed([]byte(s)); len(got) != 0 {
			t.Errorf("Feed(%q) = %+v", s, got)
		}
		if f.Taken() != 0 || f.Open() || f.Err() != nil {
			t.Error(f.Taken(), f.Open(), f.Err())
		}
	}
}

// P15.1: a framer that has taken no bytes, whatever the limits are.
func TestNew(t *testing.T) {
	for _, n := range []int{math.MinInt, -1, 0, 1, 1 << 20, math.MaxInt} {
		l := api.Limits{Line: n, Head: n, Fields: n, Body: n}
		f := framer.New(l)
		if f == nil {
			t.Fatalf("New of %d", n)
		}
		checkState(t, f, "", l, outcome{}, 0)
		if got := f.Feed(nil); len(got) != 0 {
			t.Errorf("%+v", got)
		}
		checkState(t, f, "", l, outcome{}, 0)
	}
}

// The examples of the chapter, and those of the document that are about framing.
func TestExamples(t *testing.T) {
	checkWritten(t, "GET / HTTP/1.0\r\n\r\n", wide, outcome{requests: []done{{request("GET", "/", 0, ""), 18}}})
	checkWritten(t, "GET / HTTP/1.1\r\n\r\n", wide, outcome{status: 400, at: 17})
	const both = "POST / HTTP/1.1\r\nHost: a\r\nTransfer-Encoding: chunked\r\nContent-Length: 5\r\n\r\n"
	checkWritten(t, both, wide, outcome{status: 400, at: len(both) - 1})
	long := api.Limits{Line: 10, Head: 10, Fields: 1, Body: 10}
	checkWritten(t, "GET /abcdef HTTP/1.1\r\n", long, outcome{status: 414, at: 10})
	checkWritten(t, "A / HTTP/1.0\r\n\r\n", api.Limits{Line: 12}, outcome{status: 501, at: 15})
	long.Line = 20
	checkWritten(t, "GET / HTTP/1.1\r\nHost: abcdefghijklmnopqr\r\n", long, outcome{status: 431, at: 36})
	checkWritten(t, "GET / HTTP/1.1\r\nHost: abcd\r\n", long, outcome{status: 431, at: 27})
	checkWritten(t, "GET / HTTP/1.1\r\nHost: a\r\nA:\r\n", long, outcome{status: 431, at: 28})
	long = api.Limits{Line: 20, Head: 100, Fields: 2, Body: 10}
	checkWritten(t, "GET / HTTP/1.1\r\nHost: a\r\nContent-Length: 11\r\n\r\n", long, outcome{status: 413, at: 46})
}

// P15.1, P15.3: requests without errors.
func TestRequests(t *testing.T) {
	host := api.Field{Name: "host", Value: "a"}
	length := func(n string) api.Field { return api.Field{Name: "content-length", Value: n} }
	coding := api.Field{Name: "transfer-encoding", Value: "chunked"}
	for _, c := range []struct {
		s    string
		want []done
	}{
		{"", nil},
		{"\r\n", nil},
		{"\r\n\r\nGET / HTTP/1.0\r\n\r\n", []done{{request("GET", "/", 0, ""), 22}}},
		{"GET / HTTP/1.1\r\nhost:a\r\n\r\n", []done{{request("GET", "/", 1, "", host), 26}}},
		{"GET / HTTP/1.1\r\nHOST: \ta\t\r\n\r\n", []done{{request("GET", "/", 1, "", host), 29}}},
		{"GET * HTTP/1.1\r\nHost:\r\nX: 1\r\nY: z\r\nx: 1\r\n\r\n", []done{{request("GET", "*", 1, "", api.Field{Name: "host"}, api.Field{Name: "x", Value: "1"}, api.Field{Name: "y", Value: "z"}, api.Field{Name: "x", Value: "1"}), 43}}},
		{"PUT /%zz?\\ HTTP/1.1\r\nHost: a\r\nContent-Length: 3\r\n\r\nabc", []done{{request("PUT", "/%zz?\\", 1, "abc", host, length("3")), 54}}},
		{"PUT /a HTTP/1.0\r\nContent-Length: 003\r\n\r\n\r\n\x00", []done{{request("PUT", "/a", 0, "\r\n\x00", length("003")), 43}}},
		{"GET / HTTP/1.0\r\nContent-Length: 0\r\n\r\n", []done{{request("GET", "/", 0, "", length("0")), 37}}},
		{"POST / HTTP/1.1\r\nHost: a\r\nTransfer-Encoding: chunked\r\n\r\n3;x=y\r\nabc\r\n2\r\nde\r\n0\r\nX: y\r\n\r\n", []done{{request("POST", "/", 1, "abcde", host, coding), 86}}},
		{"POST / HTTP/1.1\r\nHost: a\r\nTransfer-Encoding: chunked\r\n\r\n0\r\n\r\n", []done{{request("POST", "/", 1, "", host, coding), 61}}},
		// Several requests, with and without bodies, of which some look like requests.
		{"GET /a HTTP/1.0\r\n\r\nHEAD /b HTTP/1.0\r\n\r\n\r\nOPTIONS * HTTP/1.0\r\n\r\n\r\n", []done{{request("GET", "/a", 0, ""), 19}, {request("HEAD", "/b", 0, ""), 39}, {request("OPTIONS", "*", 0, ""), 63}}},
		{"PUT / HTTP/1.0\r\nContent-Length: 18\r\n\r\nGET / HTTP/1.0\r\n\r\nGET / HTTP/1.0\r\n\r\n", []done{{request("PUT", "/", 0, "GET / HTTP/1.0\r\n\r\n", length("18")), 56}, {request("GET", "/", 0, ""), 74}}},
		{"POST / HTTP/1.1\r\nHost: a\r\nTransfer-Encoding: chunked\r\n\r\n5\r\n0\r\n\r\n\r\n0\r\n\r\nGET / HTTP/1.0\r\n\r\n", []done{{request("POST", "/", 1, "0\r\n\r\n", host, coding), 71}, {request("GET", "/", 0, ""), 89}}},
		// What connections are for does not matter here.
		{"GET / HTTP/1.0\r\nConnection: close\r\n\r\nGET / HTTP/1.0\r\n\r\n", []done{{request("GET", "/", 0, "", api.Field{Name: "connection", Value: "close"}), 37}, {request("GET", "/", 0, ""), 55}}},
		{"CONNECT a:1 HTTP/1.0\r\n\r\nTRACE / HTTP/1.0\r\n\r\n", []done{{request("CONNECT", "a:1", 0, ""), 24}, {request("TRACE", "/", 0, ""), 44}}},
	} {
		for _, l := range []api.Limits{wide, greatest, {Line: 40, Head: 60, Fields: 4, Body: 18}} {
			checkWritten(t, c.s, l, outcome{requests: c.want})
		}
	}
}

// P15.2: bytes after the last request, of whatever part.
func TestOpen(t *testing.T) {
	const (
		first  = "PUT / HTTP/1.0\r\nContent-Length: 2\r\n\r\n\r\n"
		second = "\r\n\r\nPOST / HTTP/1.1\r\nHost: a\r\nTransfer-Encoding: chunked\r\n\r\n1\r\na\r\n0\r\nx: y\r\n\r\n"
	)
	f := framer.New(wide)
	for _, s := range []string{first, second, first, first, second} {
		for i := range len(s) {
			last := i == len(s)-1
			if got := f.Feed([]byte{s[i]}); len(got) != map[bool]int{false: 0, true: 1}[last] {
				t.Fatalf("%d requests after the byte %d of %q", len(got), i, s)
			}
			if f.Open() == last || f.Err() != nil {
				t.Fatal(f.Open(), f.Err(), i)
			}
		}
	}
	if want := 3*len(first) + 2*len(second); f.Taken() != want {
		t.Errorf("%d bytes, want %d", f.Taken(), want)
	}
	for _, s := range []string{"\r", "\r\n", "\r\n\r\n", "G", "\n", " "} {
		f := framer.New(wide)
		f.Feed([]byte(s))
		if !f.Open() {
			t.Errorf("not open after %q", s)
		}
	}
}

// P15.2, P15.3: wrong bytes in each part, after as many requests as there are before.
func TestWrongBytes(t *testing.T) {
	l := api.Limits{Line: 30, Head: 60, Fields: 3, Body: 9}
	for _, c := range []struct {
		s      string
		status api.Status
		at     int
	}{
		// Empty lines.
		{"\n", 400, 0},
		{"\rx", 400, 1},
		{"\r\r", 400, 1},
		{"\r\n\n", 400, 2},
		{"\r\n\r\n\r\r", 400, 5},
		// Request lines.
		{"GET / HTTP/1.0\n", 400, 14},
		{"GET / HTTP/1.0\rx", 400, 15},
		{"GET / HTTP/1.0\r\r", 400, 15},
		{"\r\nGET / HTTP/1.0\n", 400, 16},
		{" \r\n", 400, 2},
		{"x\r\n", 400, 2},
		{"GET  / HTTP/1.0\r\n", 400, 16},
		{" GET / HTTP/1.0\r\n", 400, 16},
		{"GET / HTTP/1.0 \r\n", 400, 16},
		{"GET /\x00 HTTP/1.0\r\n", 400, 16},
		{"GET / http/1.0\r\n", 400, 15},
		{"GET / HTTP/1.2\r\n", 505, 15},
		{"GET / HTTP/2.0\r\n", 505, 15},
		{"\r\n\r\nGET / HTTP/0.9\r\n", 505, 19},
		{"0123456789012345678901234567890", 414, 30},
		{"\r\n0123456789012345678901234567890", 414, 32},
		{"GET /01234567890123456 HTTP/1.1", 414, 30},
		// Field lines.
		{"GET / HTTP/1.0\r\n\n", 400, 16},
		{"GET / HTTP/1.0\r\n\rx", 400, 17},
		{"GET / HTTP/1.0\r\nx: y\n", 400, 20},
		{"GET / HTTP/1.0\r\nx: y\r\r", 400, 21},
		{"GET / HTTP/1.0\r\nx\r\n", 400, 18},
		{"GET / HTTP/1.0\r\nx : y\r\n", 400, 22},
		{"GET / HTTP/1.0\r\n x: y\r\n", 400, 22},
		{"GET / HTTP/1.0\r\nx: y\r\n z\r\n", 400, 25},
		{"GET / HTTP/1.0\r\nx: \x00\r\n", 400, 21},
		{"GET / HTTP/1.0\r\nx: y\r\n\n", 400, 22},
		{"GET / HTTP/1.0\r\nx:2345678901234567890123456789", 0, 0},
		{"GET / HTTP/1.0\r\nx:23456789012345678901234567890", 431, 46},
		{"GET / HTTP/1.0\r\nx:y\r\nx:23456789012345678901234567890", 431, 51},
		{"GET / HTTP/1.0\r\na:\r\nb:\r\nc:\r\nd:\r\n", 431, 31},
		{"GET / HTTP/1.0\r\na:\r\nb:\r\nc:\r\nd\r\n", 431, 30},
		{"GET / HTTP/1.0\r\na:\r\nb:\r\nc\r\n", 400, 26},
		{"GET / HTTP/1.0\r\na:23456789012345678901234567\r\nb:23456789012345678901234567\r\n", 0, 0},
		{"GET / HTTP/1.0\r\na:23456789012345678901234567\r\nb:234567890123456789012345678\r\n", 431, 76},
		{"GET / HTTP/1.0\r\na:23456789012345678901234567\r\nb 234567890123456789012345678\r\n", 431, 76},
		{"GET / HTTP/1.0\r\na:23456789012345678901234567\r\nb 23456789012345678901234567\r\n", 400, 75},
		// Heads.
		{"GET / HTTP/1.0\r\nHost: a\r\nHost: a\r\n\r\n", 400, 35},
		{"GET / HTTP/1.0\r\nTransfer-Encoding: chunked\r\n\r\n", 400, 45},
		{"GET / HTTP/1.1\r\nHost: a\r\nTransfer-Encoding: gzip\r\n\r\n", 400, 51},
		{"GET / HTTP/1.1\r\nHost: a\r\nTransfer-Encoding: a,chunked\r\n\r\n", 501, 56},
		{"GET / HTTP/1.0\r\nContent-Length: 1\r\nContent-Length: 1\r\n\r\n", 400, 55},
		{"GET / HTTP/1.0\r\nContent-Length: 1a\r\n\r\n", 400, 37},
		{"GET / HTTP/1.0\r\nContent-Length:\r\n\r\n", 400, 34},
		{"GET / HTTP/1.0\r\nContent-Length: 10\r\n\r\n", 413, 37},
		{"GET / HTTP/1.0\r\nContent-Length: 9\r\n\r\n", 0, 0},
		{"FETCH / HTTP/1.0\r\n\r\n", 501, 19},
		{"get / HTTP/1.0\r\n\r\n", 501, 17},
		// Chunked bodies, after a head of 56 bytes.
		{"POST / HTTP/1.1\r\nHost: a\r\nTransfer-Encoding: chunked\r\n\r\n\n", 400, 56},
		{"POST / HTTP/1.1\r\nHost: a\r\nTransfer-Encoding: chunked\r\n\r\n\r\n", 400, 57},
		{"POST / HTTP/1.1\r\nHost: a\r\nTransfer-Encoding: chunked\r\n\r\n3\r\nabcd", 400, 62},
		{"POST / HTTP/1.1\r\nHost: a\r\nTransfer-Encoding: chunked\r\n\r\n9\r\n", 0, 0},
		{"POST / HTTP/1.1\r\nHost: a\r\nTransfer-Encoding: chunked\r\n\r\na\r\n", 413, 58},
		{"POST / HTTP/1.1\r\nHost: a\r\nTransfer-Encoding: chunked\r\n\r\n0\r\nx\r\n", 400, 61},
		{"POST / HTTP/1.1\r\nHost: a\r\nTransfer-Encoding: chunked\r\n\r\n0\r\na:\r\nb:\r\nc:\r\n", 0, 0},
		{"POST / HTTP/1.1\r\nHost: a\r\nTransfer-Encoding: chunked\r\n\r\n0\r\na:\r\nb:\r\nc:\r\nd:\r\n", 431, 74},
		{"POST / HTTP/1.1\r\nHost: a\r\nTransfer-Encoding: chunked\r\n\r\n0123456789012345678901234567890", 400, 86},
		{"POST / HTTP/1.1\r\nHost: a\r\nTransfer-Encoding: chunked\r\n\r\n0\r\n0123456789012345678901234567890", 431, 89},
	} {
		for n, before := range []string{"", "GET / HTTP/1.0\r\n\r\n", "PUT / HTTP/1.0\r\nContent-Length: 2\r\n\r\n\r\rGET / HTTP/1.0\r\n\r\n"} {
			at := c.at + len(before)
			if c.status == 0 {
				checkAt(t, before+c.s, l, n, 0, 0)
				continue
			}
			checkAt(t, before+c.s, l, n, c.status, at)
			checkAt(t, before+c.s+"\r\n\r\nGET / HTTP/1.0\r\n\r\n", l, n, c.status, at)
		}
	}
}

// P15.1, P15.2: nothing is taken after a wrong byte, also not in the same chunk.
func TestAfterWrongByte(t *testing.T) {
	const first = "GET / HTTP/1.0\r\n\r\n"
	f := framer.New(wide)
	if got := f.Feed([]byte(first + "\n" + first)); !same(got, []api.Request{request("GET", "/", 0, "")}) {
		t.Errorf("%+v", got)
	}
	for _, s := range []string{"", "x", first, "\r\n"} {
		if got := f.Feed([]byte(s)); len(got) != 0 {
			t.Errorf("Feed(%q) = %+v", s, got)
		}
		if f.Taken() != 19 || !f.Open() || f.Err() != (api.Fault{Status: 400, At: 18}) {
			t.Error(f.Taken(), f.Open(), f.Err())
		}
	}
}

// P15.2: layer 1 and the library find the status and the offset.
func TestErrorsFound(t *testing.T) {
	for _, c := range []struct {
		s      string
		status api.Status
		at     int
	}{
		{"GET / HTTP/1.0\r\nContent-Length: 5x\r\n\r\n", 400, 37},
		{"GET / HTTP/1.0\r\nContent-Length: 5\r\n\r\n", 413, 36},
		{"GET / HTTP/1.0\r\nHost: a\r\nHost: a\r\n\r\n", 400, 35},
		{"GET / HTTP/2.0\r\n", 505, 15},
		{"POST / HTTP/1.1\r\nHost: a\r\nTransfer-Encoding: chunked\r\n\r\n5\r\n", 413, 58},
	} {
		_, err := framer.Split([]byte(c.s), api.Limits{Line: 99, Head: 99, Fields: 9, Body: 4})
		var f api.Fault
		if !errors.As(err, &f) || !errors.Is(err, c.status) || err.Error() != c.status.Error() {
			t.Errorf("%q: %#v", c.s, err)
		}
		status, ok := fault.Status(err)
		at, found := fault.At(err)
		if status != c.status || !ok || at != c.at || !found {
			t.Errorf("%q: %v, %d", c.s, status, at)
		}
	}
}

// samples have each part of requests, and some errors at their ends.
func samples() []string {
	const (
		plain  = "\r\nPUT /a HTTP/1.0\r\nContent-Length: 5\r\nx:y\r\n\r\n\r\nbcd"
		chunks = "POST / HTTP/1.1\r\nHost: a\r\nTransfer-Encoding: chunked\r\n\r\n2\r\n\r\n\r\nA;\r\n0123456789\r\n0\r\ny: z\r\n\r\n"
		empty  = "GET / HTTP/1.1\r\nhost:a\r\n\r\n"
	)
	return []string{
		plain + chunks + empty + plain,
		empty + empty + chunks + "\r\n\n" + empty,
		chunks + plain + "GET / HTTP/2.0\r\n\r\n",
	}
}

// P15.5: all ways to cut bytes into three chunks, and into chunks of one length.
func TestChunks(t *testing.T) {
	for _, l := range []api.Limits{wide, {Line: 30, Head: 50, Fields: 2, Body: 12}, {Line: 30, Head: 50, Fields: 2, Body: 11}, {Line: 30, Head: 37, Fields: 2, Body: 12}} {
		for _, s := range samples() {
			want := outcomeOf(s, l)
			for i := range len(s) + 1 {
				for k := i; k <= len(s); k++ {
					checkFeed(t, s, l, want, i, k)
				}
			}
			for size := 1; size < len(s); size++ {
				var places []int
				for i := size; i < len(s); i += size {
					places = append(places, i, i)
				}
				checkFeed(t, s, l, want, places...)
			}
		}
	}
}

// P15.1, P15.2: each byte in each place, instead of the byte there or before it.
func TestBytesInPlaces(t *testing.T) {
	// Just great enough for the samples.
	just := api.Limits{Line: 26, Head: 37, Fields: 2, Body: 12}
	for _, s := range samples() {
		for i := range len(s) {
			for n := range 256 {
				c := string([]byte{byte(n)})
				text := s[:i] + c + s[i+1:]
				checkFeed(t, text, wide, outcomeOf(text, wide), i, i+1)
				text = s[:i] + c + s[i:]
				checkFeed(t, text, just, outcomeOf(text, just), i, i+1)
			}
		}
	}
}

// P15.1, P15.2: bytes that are missing, or there twice, or stand in place of each other.
func TestPartsMissing(t *testing.T) {
	for _, s := range samples() {
		for i := range len(s) {
			for k := i; k <= len(s); k++ {
				text := s[:i] + s[k:]
				want := outcomeOf(text, wide)
				checkSplit(t, text, wide, want)
				checkFeed(t, text, wide, want, i)
				text = s[:k] + s[i:]
				want = outcomeOf(text, wide)
				checkSplit(t, text, wide, want)
				checkFeed(t, text, wide, want, k)
			}
		}
	}
}

// P15.1, P15.2: all texts of few pieces, with few limits.
func TestAllTexts(t *testing.T) {
	small := api.Limits{Line: 26, Head: 28, Fields: 2, Body: 2}
	eachText([]string{"GET / HTTP/1.0", "\r", "\n", "\r\n", "x:y", " ", "\x00"}, 6, func(s string) {
		checkOf(t, s, small)
	})
	eachText([]string{"GET / HTTP/1.0\r\n", "GET / HTTP/1.1\r\n", "\r\n", "Host: a\r\n", "Content-Length: 2\r\n", "Transfer-Encoding: chunked\r\n", "0\r\n", "x"}, 5, func(s string) {
		checkOf(t, s, wide)
		checkOf(t, s, small)
	})
	const chunks = "POST / HTTP/1.1\r\nHost:\r\nTransfer-Encoding: chunked\r\n\r\n"
	eachText([]string{"0\r\n", "1\r\n", "2\r\n", "\r\n", "a", "x:\r\n", "GET / HTTP/1.0\r\n"}, 5, func(s string) {
		checkOf(t, chunks+s, api.Limits{Line: 26, Head: 36, Fields: 2, Body: 2})
	})
	for n := range 9 {
		eachText([]string{"\r\n", "\r", "\n", "x", "GET / HTTP/1.0\r\n"}, 5, func(s string) {
			checkOf(t, "PUT / HTTP/1.0\r\nContent-Length: "+strconv.Itoa(n)+"\r\n\r\n"+s, wide)
		})
	}
}

// P15.1, P15.2: all limits around those that a few bytes need, also negative ones.
func TestLimits(t *testing.T) {
	for _, s := range []string{
		"\r\nGET / HTTP/1.0\r\n\r\nGET /a HTTP/1.0\r\n\r\n",
		"GET / HTTP/1.1\r\nHost: a\r\nx:\r\n\r\n",
		"GET / HTTP/1.0\r\nabcdefghijklmn:\r\n\r\nGET / HTTP/1.0\r\nx:\r\ny:\r\nz:\r\n\r\n",
		"GET / HTTP/1.0\r\nx\r\n",
		"x\r\n",
	} {
		for line := -1; line < 18; line++ {
			for size := -1; size < 20; size++ {
				for fields := -1; fields < 5; fields++ {
					checkOf(t, s, api.Limits{Line: line, Head: size, Fields: fields})
				}
			}
		}
	}
	for n := -1; n < 5; n++ {
		l := wide
		l.Body = n
		for size := range 6 {
			text := strings.Repeat("x", size)
			checkOf(t, "PUT / HTTP/1.0\r\nContent-Length: "+strconv.Itoa(size)+"\r\n\r\n"+text, l)
			checkOf(t, "POST / HTTP/1.1\r\nHost:\r\nTransfer-Encoding: chunked\r\n\r\n"+string(chunked.Encode([]byte(text), []byte("y"))), l)
		}
	}
}

// P15.1: limits hold for each request, and those of a chunked body for its trailers alone.
func TestLimitsAgain(t *testing.T) {
	const head = "POST / HTTP/1.1\r\nHost:\r\nTransfer-Encoding: chunked\r\n\r\n"
	const s = head + "3\r\nabc\r\n0\r\nabcdefghijklmnopqrstuvwx:z\r\nb:yz\r\n\r\n"
	checkAt(t, strings.Repeat(s, 20), api.Limits{Line: 26, Head: 35, Fields: 2, Body: 3}, 20, 0, 0)
	checkAt(t, s+s, api.Limits{Line: 25, Head: 35, Fields: 2, Body: 3}, 0, 431, 49)
	checkAt(t, s+s, api.Limits{Line: 26, Head: 34, Fields: 2, Body: 3}, 0, 431, 51)
	checkAt(t, s+s, api.Limits{Line: 26, Head: 35, Fields: 1, Body: 3}, 0, 431, 51)
	checkAt(t, s+s, api.Limits{Line: 26, Head: 35, Fields: 2, Body: 2}, 0, 413, 56)
	const plain = "PUT / HTTP/1.0\r\nContent-Length: 3\r\n\r\nabc"
	checkAt(t, strings.Repeat(plain, 20), api.Limits{Line: 17, Head: 19, Fields: 1, Body: 3}, 20, 0, 0)
	checkAt(t, strings.Repeat("\r\n", 100)+plain, api.Limits{Line: 17, Head: 19, Fields: 1, Body: 3}, 1, 0, 0)
}

// P15.1, P15.2: sizes around the greatest numbers; a size within the limit takes no memory before its bytes are there.
func TestGreatSizes(t *testing.T) {
	for _, c := range []struct {
		size   string
		most   int
		status api.Status
	}{
		{"2147483647", math.MaxInt32, 0},
		{"2147483648", math.MaxInt32, 413},
		{"4611686018427387904", 1 << 62, 0},
		{"4611686018427387905", 1 << 62, 413},
		{"9223372036854775807", math.MaxInt, 0},
		{"9223372036854775808", math.MaxInt, 413},
		{"18446744073709551615", math.MaxInt, 413},
		{"18446744073709551616", math.MaxInt, 413},
		{"18446744073709551617", 1 << 62, 413},
		{strings.Repeat("9", 1000), math.MaxInt, 413},
		{strings.Repeat("0", 1000) + "5", 5, 0},
		{strings.Repeat("0", 1000) + "1", 0, 413},
	} {
		s := "PUT / HTTP/1.0\r\nContent-Length: " + c.size + "\r\n\r\n"
		l := wide
		l.Body = c.most
		checkAt(t, s, l, 0, c.status, map[bool]int{true: len(s) - 1}[c.status != 0])
	}
}

// bytesOf returns the result of Bytes by the definition.
func bytesOf(r api.Request) string {
	var b strings.Builder
	b.WriteString(r.Method + " " + r.Target + " HTTP/1." + map[bool]string{false: "1", true: "0"}[r.Minor == 0] + "\r\n")
	for _, f := range r.Fields {
		b.WriteString(f.Name + ": " + f.Value + "\r\n")
	}
	return b.String() + "\r\n" + string(r.Body)
}

// P15.4: whatever the request has.
func TestBytes(t *testing.T) {
	for _, c := range []struct {
		r    api.Request
		want string
	}{
		{api.Request{}, "  HTTP/1.0\r\n\r\n"},
		{request("GET", "/", 0, ""), "GET / HTTP/1.0\r\n\r\n"},
		{request("GET", "/a?b", 1, "", api.Field{Name: "host", Value: "a"}), "GET /a?b HTTP/1.1\r\nhost: a\r\n\r\n"},
		{request("PUT", "*", 7, "abc", api.Field{Name: "Content-Length", Value: "5"}, api.Field{Name: "x"}), "PUT * HTTP/1.1\r\nContent-Length: 5\r\nx: \r\n\r\nabc"},
		{request("POST", "/", -1, "abc", api.Field{Name: "transfer-encoding", Value: "chunked"}), "POST / HTTP/1.1\r\ntransfer-encoding: chunked\r\n\r\nabc"},
		{request("a b", "\r\n", 0, "\x00\xff\r\n", api.Field{Name: "c:", Value: "\n"}, api.Field{}), "a b \r\n HTTP/1.0\r\nc:: \n\r\n: \r\n\r\n\x00\xff\r\n"},
	} {
		if got := string(framer.Bytes(c.r)); got != c.want || bytesOf(c.r) != c.want {
			t.Errorf("Bytes(%+v) = %q, want %q", c.r, got, c.want)
		}
	}
	for _, minor := range []int{math.MinInt, -1, 0, 1, 2, 10, math.MaxInt} {
		for _, s := range samples() {
			r := request(s, s, minor, s, api.Field{Name: s, Value: s}, api.Field{Value: s}, api.Field{Name: s})
			if got := string(framer.Bytes(r)); got != bytesOf(r) {
				t.Errorf("Bytes(%+v) = %q, want %q", r, got, bytesOf(r))
			}
		}
	}
}

// P15.1, P15.4: the bytes of requests that were taken are the same requests again, if a chunked body is encoded again.
func TestBytesAgain(t *testing.T) {
	for _, s := range samples() {
		first, _ := framer.Split([]byte(s), wide)
		var all []byte
		for _, r := range first {
			if len(field.Values(r.Fields, "transfer-encoding")) > 0 {
				r.Body = chunked.Encode(r.Body)
			}
			all = append(all, framer.Bytes(r)...)
		}
		if again, err := framer.Split(all, wide); err != nil || !same(again, first) {
			t.Errorf("%q: %+v, %v, want %+v", s, again, err, first)
		}
	}
}

// P15.1, P15.3: many and long parts.
func TestLong(t *testing.T) {
	const n = 20000
	long := strings.Repeat("x", n)
	l := api.Limits{Line: 2 * n, Head: 6*n + 1, Fields: n, Body: 8 * n}
	fields := slices.Repeat([]api.Field{{Name: "x", Value: "y"}}, n)
	checkLong(t, strings.Repeat("\r\n", n)+"GET / HTTP/1.0\r\n\r\n", l, request("GET", "/", 0, ""))
	checkLong(t, "GET /"+long+" HTTP/1.0\r\n"+long[:n-1]+":"+long+"\r\n\r\n", l, request("GET", "/"+long, 0, "", api.Field{Name: long[:n-1], Value: long}))
	checkLong(t, "GET / HTTP/1.0\r\n"+strings.Repeat("x: y\r\n", n)+"\r\n", l, request("GET", "/", 0, "", fields...))
	checkLong(t, "PUT / HTTP/1.0\r\nContent-Length: 160000\r\n\r\n"+strings.Repeat(long, 8), l, request("PUT", "/", 0, strings.Repeat(long, 8), api.Field{Name: "content-length", Value: "160000"}))
	checkLong(t, strings.Repeat("GET / HTTP/1.0\r\n\r\n", n), l, slices.Repeat([]api.Request{request("GET", "/", 0, "")}, n)...)
	l.Fields--
	s := "GET / HTTP/1.0\r\n" + strings.Repeat("x: y\r\n", n)
	checkAt(t, s, l, 0, 431, len(s)-1)
	l.Fields, l.Head = n, 6*n-1
	checkAt(t, s, l, 0, 431, len(s)-1)
}

// checkLong checks that a string has some requests and no wrong byte.
func checkLong(t *testing.T, s string, l api.Limits, want ...api.Request) {
	t.Helper()
	if got, err := framer.Split([]byte(s), l); !same(got, want) || err != nil {
		t.Errorf("%.60q: %d requests, %v", s, len(got), err)
	}
}

// randomText returns some requests, or what a few wrong bytes make of them.
func randomText(random *rand.Rand) string {
	choose := func(l ...string) string { return l[random.Intn(len(l))] }
	var b strings.Builder
	for range random.Intn(4) {
		b.WriteString(choose("", "", "\r\n"))
		b.WriteString(choose("GET", "PUT", "x") + choose(" / ", " /a ") + choose("HTTP/1.0", "HTTP/1.1", "HTTP/1.1") + "\r\nHost: a\r\n")
		b.WriteString(choose("", "x:y\r\n", "x: \xff \r\n"))
		body := strings.Repeat("\r\na", 3)[random.Intn(9):]
		switch random.Intn(3) {
		case 0:
			b.WriteString("\r\n")
		case 1:
			b.WriteString("Content-Length: " + strconv.Itoa(len(body)) + "\r\n\r\n" + body)
		case 2:
			b.WriteString("Transfer-Encoding: Chunked\r\n\r\n" + string(chunked.Encode([]byte(body), []byte(body))))
		}
	}
	s := b.String()
	for range random.Intn(2) {
		i := random.Intn(len(s) + 1)
		s = s[:i] + choose("", "\r", "\n", "\r\n", "0", " ", "\x00", "\xff") + s[min(len(s), i+random.Intn(2)):]
	}
	return s
}

// P15.1 to P15.3, P15.5: random requests, limits and chunks.
func TestRandom(t *testing.T) {
	random := rand.New(rand.NewSource(15))
	for range 60000 {
		l := api.Limits{Line: 10 + random.Intn(40), Head: random.Intn(80), Fields: random.Intn(4), Body: random.Intn(20)}
		if random.Intn(2) == 0 {
			l = wide
		}
		s := randomText(random)
		want := outcomeOf(s, l)
		checkWant(t, s, l, want)
		var places []int
		for range random.Intn(6) {
			places = append(places, random.Intn(len(s)+1))
		}
		slices.Sort(places)
		checkFeed(t, s, l, want, places...)
	}
}

// P15.1: framers do not depend on each other.
func TestFramers(t *testing.T) {
	all := samples()
	framers := make([]*framer.Framer, len(all))
	for i := range framers {
		framers[i] = framer.New(wide)
	}
	for at := range slices.MaxFunc(all, func(a, b string) int { return len(a) - len(b) }) {
		for i, s := range all {
			if at >= len(s) {
				continue
			}
			want := outcomeOf(s, wide)
			if got := framers[i].Feed([]byte{s[at]}); !same(got, want.between(at, at+1)) {
				t.Fatalf("the byte %d of %q: %+v", at, s, got)
			}
			checkState(t, framers[i], s, wide, want, at+1)
		}
	}
}

// overwrite writes a byte into all of a slice, also behind its end.
func overwrite(b []byte, c byte) {
	b = b[:cap(b)]
	for i := range b {
		b[i] = c
	}
}

// spoil writes into all slices of requests, also behind their ends.
func spoil(l []api.Request) {
	l = l[:cap(l)]
	for i := range l {
		overwrite(l[i].Body, '!')
		fields := l[i].Fields[:cap(l[i].Fields)]
		for k := range fields {
			fields[k] = api.Field{Name: "!", Value: "!"}
		}
		l[i] = api.Request{Method: "!"}
	}
}

// Arguments stay as they are, also behind the ends of slices.
func TestArgumentsStay(t *testing.T) {
	for _, s := range samples() {
		b := []byte(s + s)
		for n := range len(s) {
			f := framer.New(wide)
			spoil(f.Feed(b[:n]))
			spoil(f.Feed(b[n:len(s)]))
			l, _ := framer.Split(b[:n], wide)
			spoil(l)
			if string(b) != s+s {
				t.Fatalf("%q", b)
			}
		}
	}
	fields := []api.Field{{Name: "a", Value: "b"}, {Name: "c", Value: "d"}}
	body := []byte("abcdef")
	overwrite(framer.Bytes(api.Request{Fields: fields[:1], Body: body[:3]}), '!')
	if string(body) != "abcdef" || fields[0].Name != "a" || fields[1].Name != "c" {
		t.Errorf("%q, %+v", body, fields)
	}
}

// Results share no memory with arguments, the framer and each other.
func TestResultsShareNothing(t *testing.T) {
	for _, s := range samples() {
		want := outcomeOf(s, wide)
		f := framer.New(wide)
		chunk := make([]byte, 7, 20)
		for at := 0; at < len(s); at += len(chunk) {
			chunk = chunk[:copy(chunk[:7], s[at:])]
			got := f.Feed(chunk)
			overwrite(chunk, '?')
			if !same(got, want.between(at, at+len(chunk))) {
				t.Fatalf("%q at %d: %+v", s, at, got)
			}
			spoil(got)
		}
		checkState(t, f, s, wide, want, len(s))
		all, _ := framer.Split([]byte(s), wide)
		for i := range all {
			spoil(all[i : i+1 : i+1])
			if rest := want.between(want.requests[i].end, len(s)); !same(all[i+1:], rest) {
				t.Fatalf("%q: %+v", s, all[i+1:])
			}
		}
	}
	r := request("GET", "/", 0, "abc")
	one, two := framer.Bytes(r), framer.Bytes(r)
	overwrite(r.Body, '!')
	overwrite(two, '!')
	if string(one) != "GET / HTTP/1.0\r\n\r\nabc" {
		t.Errorf("%q", one)
	}
}

// The functions may be called concurrently.
func TestConcurrent(t *testing.T) {
	var group sync.WaitGroup
	for i := range 8 {
		group.Go(func() {
			random := rand.New(rand.NewSource(int64(i)))
			for range 300 {
				s := randomText(random)
				want := outcomeOf(s, wide)
				got, err := framer.Split([]byte(s), wide)
				if !same(got, want.between(0, len(s))) || err != want.err(len(s)) {
					t.Errorf("Split(%q) = %+v, %v", s, got, err)
				}
				for _, r := range got {
					if b := string(framer.Bytes(r)); b != bytesOf(r) {
						t.Errorf("Bytes(%+v) = %q", r, b)
					}
				}
			}
		})
	}
	group.Wait()
}
