package chunked_test

import (
	"bytes"
	"errors"
	"fmt"
	"math"
	"math/big"
	"math/rand"
	"regexp"
	"slices"
	"strings"
	"sync"
	"testing"

	"doorkeeper/api"
	"doorkeeper/chunked"
	"doorkeeper/fault"
	"doorkeeper/lines"
)

// The lines of bodies. Bytes that are not UTF-8 match a negated class, too.
var (
	sizeLine = regexp.MustCompile(`\A([0-9A-Fa-f]+)[ \t]*(;[^\x00-\x08\x0a-\x1f\x7f]*)?\z`)
	trailer  = regexp.MustCompile("\\A[A-Za-z0-9!#$%&'*+.^_`|~-]+:[^\\x00-\\x08\\x0a-\\x1f\\x7f]*\\z")
)

// wide are limits that are greater than all bodies of these tests.
var wide = api.Limits{Line: 1 << 30, Head: 1 << 30, Fields: 1 << 30, Body: 1 << 30}

// greatest are the greatest limits.
var greatest = api.Limits{Line: math.MaxInt, Head: math.MaxInt, Fields: math.MaxInt, Body: math.MaxInt}

// result tells what becomes of some bytes: they begin with n bytes of a body, or have a wrong byte with a status, or else end before the body does.
type result struct {
	data   string
	n      int
	status api.Status
	at     int
}

func body(data string, n int) result { return result{data: data, n: n} }

func wrong(status api.Status, at int) result { return result{status: status, at: at} }

// open is the result for bytes that end before the body does.
func open() result { return result{} }

// lineOf returns the line at a place of a string and the place after it, or else a state, and the place of the byte that leads to it.
func lineOf(s string, at, most int) (line string, place int, state int) {
	n := strings.IndexAny(s[at:], "\r\n")
	if n < 0 {
		n = len(s) - at
	}
	line, rest := s[at:at+n], s[at+n:]
	switch {
	case n > max(most, 0):
		return "", at + max(most, 0), lines.Long
	case rest == "" || rest == "\r":
		return "", len(s), lines.More
	case rest[0] == '\n':
		return "", at + n, lines.Bad
	case rest[1] == '\n':
		return line, at + n + 2, lines.Done
	}
	return "", at + n + 1, lines.Bad
}

// resultOf returns what becomes of a string by the definition.
func resultOf(s string, l api.Limits) result {
	at, data := 0, ""
	for {
		line, next, state := lineOf(s, at, l.Line)
		switch state {
		case lines.More:
			return open()
		case lines.Bad, lines.Long:
			return wrong(400, next)
		}
		match := sizeLine.FindStringSubmatch(line)
		if match == nil {
			return wrong(400, next-1)
		}
		size, _ := new(big.Int).SetString(match[1], 16)
		all := new(big.Int).Add(size, big.NewInt(int64(len(data))))
		if all.Cmp(big.NewInt(int64(max(l.Body, 0)))) > 0 {
			return wrong(413, next-1)
		}
		if size.Sign() == 0 {
			return trailersOf(s, next, l, data)
		}
		if size.Cmp(big.NewInt(int64(len(s)-next))) >= 0 {
			return open()
		}
		end := next + int(size.Int64())
		data += s[next:end]
		switch {
		case s[end] != '\r':
			return wrong(400, end)
		case end+1 == len(s):
			return open()
		case s[end+1] != '\n':
			return wrong(400, end+1)
		}
		at = end + 2
	}
}

// trailersOf returns what becomes of a string whose trailers begin at a place.
func trailersOf(s string, at int, l api.Limits, data string) result {
	for count, all := 1, 0; ; count++ {
		line, next, state := lineOf(s, at, l.Line)
		switch {
		case state == lines.More:
			return open()
		case state == lines.Bad:
			return wrong(400, next)
		case state == lines.Long:
			return wrong(431, next)
		case line == "":
			return body(data, next)
		}
		all += len(line) + 2
		switch {
		case count > max(l.Fields, 0), all > max(l.Head, 0):
			return wrong(431, next-1)
		case !trailer.MatchString(line):
			return wrong(400, next-1)
		}
		at = next
	}
}

// checkDecode checks Decode against a result.
func checkDecode(t *testing.T, s string, l api.Limits, want result) {
	t.Helper()
	data, n, err := chunked.Decode([]byte(s), l)
	if string(data) != want.data || n != want.n {
		t.Fatalf("Decode(%.200q, %+v) = %.80q, %d, %v, want %.80q, %d", s, l, data, n, err, want.data, want.n)
	}
	var wantErr error
	switch {
	case want.status != 0:
		wantErr = api.Fault{Status: want.status, At: want.at}
	case want.n == 0:
		wantErr = api.Fault{Status: 400, At: len(s)}
	}
	if err != wantErr {
		t.Fatalf("Decode(%.200q, %+v): error %#v, want %#v", s, l, err, wantErr)
	}
}

// checkPut checks the state, Data and Err after each byte of a string, and after some more.
func checkPut(t *testing.T, s string, l api.Limits, want result) {
	t.Helper()
	d := chunked.New(l)
	checkState(t, d, result{})
	for i := range len(s) {
		now, state := result{}, chunked.More
		switch {
		case want.status != 0 && i >= want.at:
			now, state = want, chunked.Bad
		case want.n != 0 && i >= want.n-1:
			now, state = want, chunked.Done
		}
		if got := d.Put(s[i]); got != state {
			t.Fatalf("%+v: Put of the byte %d of %.200q = %d, want %d", l, i, s, got, state)
		}
		checkState(t, d, now)
	}
	if want == open() {
		return
	}
	state := d.Put('x')
	for _, c := range []byte("0\r\n\r\n1") {
		if got := d.Put(c); got != state {
			t.Fatalf("%+v: Put of %q after all of %.200q = %d, want %d", l, c, s, got, state)
		}
		checkState(t, d, want)
	}
}

// checkState checks what Data and Err return.
func checkState(t *testing.T, d *chunked.Decoder, want result) {
	t.Helper()
	if data := d.Data(); string(data) != want.data {
		t.Fatalf("Data() = %.80q, want %.80q", data, want.data)
	}
	var wantErr error
	if want.status != 0 {
		wantErr = api.Fault{Status: want.status, At: want.at}
	}
	if err := d.Err(); err != wantErr {
		t.Fatalf("Err() = %#v, want %#v", err, wantErr)
	}
}

// checkOf checks all functions that decode against the definition.
func checkOf(t *testing.T, s string, l api.Limits) {
	t.Helper()
	want := resultOf(s, l)
	checkDecode(t, s, l, want)
	checkPut(t, s, l, want)
}

// checkWritten checks all functions that decode, and the definition as well, against a result that is written out.
func checkWritten(t *testing.T, s string, l api.Limits, want result) {
	t.Helper()
	if got := resultOf(s, l); got != want {
		t.Errorf("the definition gives %+v for %.200q, want %+v", got, s, want)
	}
	checkDecode(t, s, l, want)
	checkPut(t, s, l, want)
}

// eachText calls a function for all texts of up to n pieces.
func eachText(pieces []string, n int, call func(s string)) {
	call("")
	if n == 0 {
		return
	}
	for _, piece := range pieces {
		eachText(pieces, n-1, func(s string) {
			call(piece + s)
		})
	}
}

func TestStates(t *testing.T) {
	if chunked.More != 0 || chunked.Done != 1 || chunked.Bad != 2 {
		t.Error(chunked.More, chunked.Done, chunked.Bad)
	}
}

func TestNil(t *testing.T) {
	var d *chunked.Decoder
	for n := range 256 {
		if got := d.Put(byte(n)); got != chunked.Bad {
			t.Errorf("Put(%d) = %d", n, got)
		}
		if data, err := d.Data(), d.Err(); len(data) != 0 || err != api.BadRequest {
			t.Errorf("%q, %#v", data, err)
		}
	}
}

// P14.1: a decoder that has taken no bytes, whatever the limits are.
func TestNew(t *testing.T) {
	for _, n := range []int{math.MinInt, -1, 0, 1, 1 << 20, math.MaxInt} {
		d := chunked.New(api.Limits{Line: n, Head: n, Fields: n, Body: n})
		if d == nil {
			t.Fatalf("New of %d", n)
		}
		checkState(t, d, result{})
	}
}

// The examples of the chapter.
func TestExamples(t *testing.T) {
	checkWritten(t, "3;x=y\r\nabc\r\n0\r\n\r\n", wide, body("abc", 17))
	checkWritten(t, "3\r\nabcd", wide, wrong(400, 6))
}

// P14.1, P14.2, P14.4: bodies without errors.
func TestBodies(t *testing.T) {
	for _, c := range []struct {
		s    string
		want result
	}{
		{"0\r\n\r\n", body("", 5)},
		{"000\r\n\r\n", body("", 7)},
		{"0 \t;x\r\n\r\n", body("", 9)},
		{"1\r\na\r\n0\r\n\r\n", body("a", 11)},
		{"01\r\na\r\n00\r\n\r\n", body("a", 13)},
		{"a\r\n0123456789\r\n0\r\n\r\n", body("0123456789", 20)},
		{"A\r\n0123456789\r\n0\r\n\r\n", body("0123456789", 20)},
		{"10\r\n0123456789abcdef\r\n0\r\n\r\n", body("0123456789abcdef", 27)},
		{"1\r\na\r\n2\r\nbc\r\n3\r\ndef\r\n0\r\n\r\n", body("abcdef", 26)},
		{"2\r\n\r\n\r\n0\r\n\r\n", body("\r\n", 12)},
		{"2\r\n\n\n\r\n0\r\n\r\n", body("\n\n", 12)},
		{"3\r\n\x00\xff;\r\n0\r\n\r\n", body("\x00\xff;", 13)},
		{"5\r\n0\r\n\r\n\r\n0\r\n\r\n", body("0\r\n\r\n", 15)},
		{"0\r\nx: y\r\n\r\n", body("", 11)},
		{"0\r\nx:\r\n!~: \xff\t\r\n\r\n", body("", 17)},
		{"1\r\na\r\n0\r\nContent-Length: 5\r\nContent-Length: 6\r\n\r\n", body("a", 49)},
		// What follows does not matter.
		{"0\r\n\r\n\n", body("", 5)},
		{"0\r\n\r\n\r", body("", 5)},
		{"1\r\na\r\n0\r\n\r\n1\r\nb\r\n0\r\n\r\n", body("a", 11)},
		{"1\r\na\r\n0\r\n\r\nGET / HTTP/1.1\r\n", body("a", 11)},
	} {
		for _, l := range []api.Limits{wide, greatest, {Line: 20, Head: 100, Fields: 3, Body: 16}} {
			checkWritten(t, c.s, l, c.want)
		}
	}
}

// P14.1, P14.4: bytes that end before the body does.
func TestOpen(t *testing.T) {
	const s = "3;x=y \r\nabc\r\nA\r\n0123456789\r\n00\r\nx: y\r\nz:\r\n\r\n"
	for n := range len(s) {
		checkWritten(t, s[:n], wide, open())
	}
	checkWritten(t, s, wide, body("abc0123456789", len(s)))
	checkWritten(t, "", api.Limits{}, open())
}

// P14.1, P14.4: size lines, and what is none.
func TestSizeLines(t *testing.T) {
	for _, c := range []struct {
		line string
		good bool
	}{
		{"3", true},
		{"03", true},
		{strings.Repeat("0", 1000) + "3", true},
		{"3;", true},
		{"3;x", true},
		{"3;x=y;z=\"a;b\"", true},
		{"3;;", true},
		{"3; ", true},
		{"3;\t\x80\xff~ ", true},
		{"3 ", true},
		{"3\t", true},
		{"3 \t ", true},
		{"3 ;x", true},
		{"3\t \t; x y", true},
		{"3;3", true},
		{"3;\u2028", true},

		{"", false},
		{" ", false},
		{" 3", false},
		{"\t3", false},
		{";3", false},
		{";", false},
		{" ;3", false},
		{"3 3", false},
		{"3 x", false},
		{"3 3;x", false},
		{"3x", false},
		{"x3", false},
		{"0x3", false},
		{"3h", false},
		{"+3", false},
		{"-3", false},
		{"-0", false},
		{"3.", false},
		{"3,", false},
		{"3:x", false},
		{"3=x", false},
		{"3_0", false},
		{"g", false},
		{"3\x00", false},
		{"3\x0b", false},
		{"3\u00a0", false},
		{"\u0663", false},
		{"\uff13", false},
		{"3;\x00", false},
		{"3;\x7f", false},
		{"3;x\x1fy", false},
		{"3;\x0b", false},
		{"3 \x0b;x", false},
		{strings.Repeat("f", 1000) + "x", false},
		{strings.Repeat("f", 1000) + ";\x00", false},
	} {
		want := wrong(400, len(c.line)+1)
		if c.good {
			want = body("abc", len(c.line)+12)
		}
		checkWritten(t, c.line+"\r\nabc\r\n0\r\n\r\n", wide, want)
	}
}

// P14.1: each byte in each place of a size line, also of the last one.
func TestSizeLineBytes(t *testing.T) {
	for n := range 256 {
		c := string([]byte{byte(n)})
		for _, line := range []string{c, c + "1", "1" + c, "1" + c + "1", "1 " + c, "1 " + c + ";", "1;" + c, "1;x" + c + "y", "0" + c, "0;" + c} {
			checkOf(t, line+"\r\nx\r\n0\r\n\r\n", wide)
			checkOf(t, line+"\r\n0123456789abcdef\r\n0\r\n\r\n", api.Limits{Line: 9, Body: 15})
		}
	}
}

// P14.1: each byte in the place of another and between two, in all of a body.
func TestBytes(t *testing.T) {
	const s = "2;x\r\nab\r\n1\r\n\r\r\n0\r\nx: y\r\nz:\r\n\r\n"
	for i := range len(s) {
		checkOf(t, s[:i]+s[i+1:], wide)
		for n := range 256 {
			c := string([]byte{byte(n)})
			checkOf(t, s[:i]+c+s[i:], wide)
			checkOf(t, s[:i]+c+s[i+1:], wide)
		}
	}
}

// P14.1: the line ends of size lines and trailers, and those after data.
func TestLineEnds(t *testing.T) {
	for _, c := range []struct {
		s    string
		want result
	}{
		{"\n", wrong(400, 0)},
		{"\r\n", wrong(400, 1)},
		{"\r\r", wrong(400, 1)},
		{"\rx", wrong(400, 1)},
		{"0\n", wrong(400, 1)},
		{"0\rx", wrong(400, 2)},
		{"0\r\r\n", wrong(400, 2)},
		{"0\r\n\n", wrong(400, 3)},
		{"0\r\n\rx", wrong(400, 4)},
		{"0\r\n\r\r", wrong(400, 4)},
		{"0\r\nx: y\n", wrong(400, 7)},
		{"0\r\nx: y\rz", wrong(400, 8)},
		{"0\r\nx: y\r\n\n", wrong(400, 9)},
		{"1\r\na\n", wrong(400, 4)},
		{"1\r\nax", wrong(400, 4)},
		{"1\r\na0\r\n\r\n", wrong(400, 4)},
		{"1\r\na\rx", wrong(400, 5)},
		{"1\r\na\r\r", wrong(400, 5)},
		{"1\r\na\r\r\n", wrong(400, 5)},
		{"1\r\na\r\n\r\n", wrong(400, 7)},
		{"1\r\na\r\n\n", wrong(400, 6)},
		{"1\r\n\r\n0\r\n\r\n", wrong(400, 4)},
		{"1\r\n\r\r\n0\r\n\r\n", body("\r", 11)},
		{"2\r\n\r\n0\r\n\r\n", wrong(400, 5)},
	} {
		checkWritten(t, c.s, wide, c.want)
	}
}

// P14.1: the limit Body, for one chunk and for several.
func TestBody(t *testing.T) {
	for _, c := range []struct {
		s    string
		most int
		want result
	}{
		{"0\r\n\r\n", 0, body("", 5)},
		{"0\r\n\r\n", -1, body("", 5)},
		{"0\r\n\r\n", math.MinInt, body("", 5)},
		{"1\r\na\r\n0\r\n\r\n", 1, body("a", 11)},
		{"1\r\na\r\n0\r\n\r\n", 0, wrong(413, 2)},
		{"1\r\na\r\n0\r\n\r\n", -1, wrong(413, 2)},
		{"1\r\na\r\n0\r\n\r\n", math.MinInt, wrong(413, 2)},
		{"3;x\r\nabc\r\n0\r\n\r\n", 2, wrong(413, 4)},
		{"0003\r\nabc\r\n0\r\n\r\n", 3, body("abc", 16)},
		{"2\r\nab\r\n1\r\nc\r\n0\r\n\r\n", 3, body("abc", 18)},
		{"2\r\nab\r\n2\r\ncd\r\n0\r\n\r\n", 3, wrong(413, 9)},
		{"1\r\na\r\n1\r\nb\r\n1\r\nc\r\n0\r\n\r\n", 2, wrong(413, 14)},
		{"10\r\n0123456789abcdef\r\n0\r\n\r\n", 16, body("0123456789abcdef", 27)},
		{"10\r\n0123456789abcdef\r\n0\r\n\r\n", 15, wrong(413, 3)},
		{"11\r\n", 16, wrong(413, 3)},
		{"f\r\n0123456789abcde\r\n2\r\n", 16, wrong(413, 22)},
		// A size line that is none is an error before its size.
		{"5x\r\n", 2, wrong(400, 3)},
		{"5;\x00\r\n", 2, wrong(400, 4)},
		{"x5\r\n", 0, wrong(400, 3)},
		{"55x\r\n", 2, wrong(400, 4)},
		{"ff g\r\n", 2, wrong(400, 5)},
	} {
		l := wide
		l.Body = c.most
		checkWritten(t, c.s, l, c.want)
	}
	for n := range 300 {
		half := n / 2
		for most := max(n-2, 0); most < n+3; most++ {
			l := api.Limits{Line: 9, Body: most}
			checkOf(t, fmt.Sprintf("%x\r\n%s\r\n0\r\n\r\n", n, strings.Repeat("x", n)), l)
			checkOf(t, fmt.Sprintf("%x\r\n%s\r\n%x\r\n%s\r\n0\r\n\r\n", half, strings.Repeat("x", half), n-half, strings.Repeat("y", n-half)), l)
		}
	}
}

// P14.1: great sizes, also those that wrap around 64 bits, and sums that do.
func TestGreatSizes(t *testing.T) {
	sizes := []string{"7fffffff", "80000000", "ffffffff", "100000000", "3fffffffffffffff", "4000000000000000", "4000000000000001", "5000000000000000", "7ffffffffffffffe", "7fffffffffffffff", "8000000000000000", "8000000000000001", "fffffffffffffffe", "ffffffffffffffff", "10000000000000000", "10000000000000001", "10000000000000003", "1000000000000000000000001", strings.Repeat("f", 1000), "0" + strings.Repeat("0", 1000) + "3"}
	limits := []int{-1, 0, 1, 3, 1<<31 - 1, 1 << 31, 1 << 32, 1<<62 - 1, 1 << 62, 1<<62 + 1, math.MaxInt - 2, math.MaxInt - 1, math.MaxInt}
	for _, size := range sizes {
		for _, most := range limits {
			l := wide
			l.Body = most
			checkOf(t, size+"\r\nabc\r\n0\r\n\r\n", l)
			checkOf(t, strings.ToUpper(size)+" ;\r\nabc\r\n0\r\n\r\n", l)
			checkOf(t, "1\r\na\r\n"+size+"\r\nabc", l)
			checkOf(t, "2\r\nab\r\n1\r\nb\r\n"+size+"\r\nabc", l)
			checkOf(t, size+"x\r\n", l)
		}
	}
	checkWritten(t, "7fffffffffffffff\r\nabc", greatest, open())
	checkWritten(t, "8000000000000000\r\nabc", greatest, wrong(413, 17))
	checkWritten(t, "1\r\na\r\n7ffffffffffffffe\r\nabc", greatest, open())
	checkWritten(t, "1\r\na\r\n7fffffffffffffff\r\nabc", greatest, wrong(413, 23))
}

// P14.1: each byte in the place of each digit of a size around the limits.
func TestGreatSizeBytes(t *testing.T) {
	for _, size := range []string{"12", "7fffffffffffffff", "8000000000000000"} {
		for i := range len(size) {
			for n := range 256 {
				s := size[:i] + string([]byte{byte(n)}) + size[i+1:]
				for _, most := range []int{0, 17, 18, 1 << 62, math.MaxInt - 15, math.MaxInt - 1, math.MaxInt} {
					l := wide
					l.Body = most
					checkOf(t, s+"\r\nab", l)
				}
			}
		}
	}
}

// P14.1: the limit Line, for size lines and trailers.
func TestLine(t *testing.T) {
	for _, c := range []struct {
		s    string
		most int
		want result
	}{
		{"0\r\n\r\n", 1, body("", 5)},
		{"0\r\n\r\n", 0, wrong(400, 0)},
		{"0\r\n\r\n", -1, wrong(400, 0)},
		{"\r\n", 0, wrong(400, 1)},
		{"\n", 0, wrong(400, 0)},
		{"3;x\r\nabc\r\n0\r\n\r\n", 3, body("abc", 15)},
		{"3;x\r\nabc\r\n0\r\n\r\n", 2, wrong(400, 2)},
		{"3;x\n", 2, wrong(400, 2)},
		{"3;\n", 2, wrong(400, 2)},
		{"1\r\na\r\n01\r\n", 1, wrong(400, 7)},
		{"a\r\n0123456789\r\n0\r\n\r\n", 1, body("0123456789", 20)},
		{"0\r\nx:y\r\n\r\n", 3, body("", 10)},
		{"0\r\nx:y\r\n\r\n", 2, wrong(431, 5)},
		{"0\r\nx:\r\nx: y\r\n\r\n", 3, wrong(431, 10)},
		{"0\r\nx:y\n", 3, wrong(400, 6)},
		{"0\r\nx:yz", 3, wrong(431, 6)},
		{"0\r\n\x00\x00", 1, wrong(431, 4)},
		{"0\r\nx\r\n", 1, wrong(400, 5)},
	} {
		l := wide
		l.Line = c.most
		checkWritten(t, c.s, l, c.want)
	}
}

// P14.1: the limits Fields and Head, and trailers that are no field lines.
func TestTrailers(t *testing.T) {
	for _, c := range []struct {
		trailers     string
		fields, head int
		want         result
	}{
		{"", 0, 0, body("", 5)},
		{"", -1, -1, body("", 5)},
		{"", math.MinInt, math.MinInt, body("", 5)},
		{"x:\r\n", 1, 4, body("", 9)},
		{"x:\r\n", 0, 4, wrong(431, 6)},
		{"x:\r\n", 1, 3, wrong(431, 6)},
		{"x:\r\n", -1, 4, wrong(431, 6)},
		{"x:\r\n", 1, -1, wrong(431, 6)},
		{"x:\r\n", math.MinInt, 4, wrong(431, 6)},
		{"x:\r\n", 1, math.MinInt, wrong(431, 6)},
		{"x:\r\n", math.MinInt, math.MinInt, wrong(431, 6)},
		{"x:\r\n", math.MaxInt, math.MaxInt, body("", 9)},
		{"x:\r\nyz: a\r\n", 2, 11, body("", 16)},
		{"x:\r\nyz: a\r\n", 1, 11, wrong(431, 13)},
		{"x:\r\nyz: a\r\n", 2, 10, wrong(431, 13)},
		{"x:\r\nyz: a\r\n", 2, 4, wrong(431, 13)},
		{"x:\r\nyz: a\r\n", 2, 3, wrong(431, 6)},
		{"x:\r\nx:\r\nx:\r\n", 3, 12, body("", 17)},
		{"x:\r\nx:\r\nx:\r\n", 2, 12, wrong(431, 14)},
		{"x:\r\nx:\r\nx:\r\n", 3, 11, wrong(431, 14)},
		{"Trailer: a\r\ntransfer-encoding: chunked\r\n", 2, 99, body("", 45)},

		{"x\r\n", 1, 9, wrong(400, 5)},
		{":\r\n", 1, 9, wrong(400, 5)},
		{" x: y\r\n", 1, 9, wrong(400, 9)},
		{"x : y\r\n", 1, 9, wrong(400, 9)},
		{"x: \x00\r\n", 1, 9, wrong(400, 8)},
		{"x: \x7f\r\n", 1, 9, wrong(400, 8)},
		{"\x80: y\r\n", 1, 9, wrong(400, 8)},
		{" \r\n", 1, 9, wrong(400, 5)},
		{"x:\r\n y\r\n", 2, 99, wrong(400, 10)},
		// A trailer over a limit is an error before its form.
		{"x\r\n", 0, 9, wrong(431, 5)},
		{"x\r\n", 1, 2, wrong(431, 5)},
		{"x\r\n", 1, 3, wrong(400, 5)},
		{"x:\r\ny\r\n", 1, 99, wrong(431, 9)},
		{"x:\r\ny\r\n", 2, 6, wrong(431, 9)},
		{"x:\r\ny\r\n", 2, 7, wrong(400, 9)},
		{"x\r\ny:\r\n", 1, 99, wrong(400, 5)},
	} {
		l := api.Limits{Line: 99, Fields: c.fields, Head: c.head}
		checkWritten(t, "0\r\n"+c.trailers+"\r\n", l, c.want)
	}
}

// P14.1: all limits around the trailers of bodies.
func TestTrailerLimits(t *testing.T) {
	eachText([]string{"x:\r\n", "yz: a\r\n", "x\r\n"}, 4, func(trailers string) {
		for fields := -1; fields < 5; fields++ {
			for head := -1; head < 30; head++ {
				checkOf(t, "0\r\n"+trailers+"\r\n", api.Limits{Line: 4, Head: head, Fields: fields})
				checkOf(t, "0\r\n"+trailers+"\r\n", api.Limits{Line: 5, Head: head, Fields: fields})
			}
		}
	})
}

// P14.1: each byte in each place of a trailer.
func TestTrailerBytes(t *testing.T) {
	for n := range 256 {
		c := string([]byte{byte(n)})
		for _, line := range []string{c, c + "x:", "x" + c + ":", "x" + c, "x:" + c, "x: " + c + "y", "x: y" + c} {
			for fields := range 2 {
				checkOf(t, "0\r\n"+line+"\r\n\r\n", api.Limits{Line: 5, Head: 7, Fields: fields})
			}
		}
	}
}

// P14.1, P14.2, P14.4: all texts of few pieces, with few limits.
func TestAllTexts(t *testing.T) {
	small := api.Limits{Line: 2, Head: 4, Fields: 1, Body: 2}
	eachText([]string{"0", "1", "2", "\r\n", "\r", "\n", "a", ";", " ", "x:"}, 5, func(s string) {
		checkOf(t, s, wide)
		checkOf(t, s, small)
	})
	eachText([]string{"0\r\n", "1\r\n", "2\r\n", "\r\n", "a", "\r", "\n", "x:\r\n"}, 6, func(s string) {
		checkOf(t, s, small)
	})
	eachText([]string{"1\r\na\r\n", "2\r\nbc\r\n", "0\r\n", "\r\n", "x:y\r\n", "z:\r\n", "1\r\n"}, 6, func(s string) {
		checkOf(t, s, api.Limits{Line: 3, Head: 9, Fields: 2, Body: 3})
	})
}

// P14.2: Data and Err do not depend on how often they are called, and a decoded body is not changed by what is done to it.
func TestDataAgain(t *testing.T) {
	d := chunked.New(wide)
	for _, c := range []byte("3\r\nabc\r\n0\r\n\r\n") {
		d.Put(c)
	}
	for range 3 {
		first, second := d.Data(), d.Data()
		overwrite(first, 'x')
		if string(second) != "abc" || d.Err() != nil {
			t.Errorf("%q, %v", second, d.Err())
		}
	}
}

// overwrite writes a byte into all of a slice, also behind its end.
func overwrite(b []byte, c byte) {
	b = b[:cap(b)]
	for i := range b {
		b[i] = c
	}
}

// P14.2: layer 1 and the library find the status and the offset.
func TestErrorsFound(t *testing.T) {
	_, _, err := chunked.Decode([]byte("5\r\n"), api.Limits{Line: 9, Body: 4})
	var f api.Fault
	if !errors.As(err, &f) || !errors.Is(err, api.ContentTooLarge) {
		t.Errorf("%#v", err)
	}
	status, ok := fault.Status(err)
	at, found := fault.At(err)
	if status != 413 || !ok || at != 2 || !found {
		t.Error(status, ok, at, found)
	}
}

// P14.1: decoders do not depend on each other.
func TestDecoders(t *testing.T) {
	const good, bad = "2\r\nab\r\n0\r\nx: y\r\n\r\n", "1\r\nc\r\n00\r\ny :\r\n\r\n"
	a, b := chunked.New(wide), chunked.New(wide)
	for i := range len(good) {
		a.Put(good[i])
		if i < len(bad) {
			b.Put(bad[i])
		}
	}
	checkState(t, a, body("ab", len(good)))
	checkState(t, b, wrong(400, 14))
}

// encoded returns the result of Encode by the definition.
func encoded(parts [][]byte) string {
	var b strings.Builder
	for _, part := range parts {
		if len(part) > 0 {
			fmt.Fprintf(&b, "%x\r\n%s\r\n", len(part), part)
		}
	}
	return b.String() + "0\r\n\r\n"
}

// partsOf returns texts as parts.
func partsOf(texts ...string) [][]byte {
	var parts [][]byte
	for _, text := range texts {
		parts = append(parts, []byte(text))
	}
	return parts
}

// checkEncode checks Encode against the definition, and Decode as its inverse.
func checkEncode(t *testing.T, parts [][]byte) {
	t.Helper()
	got, want := chunked.Encode(parts...), encoded(parts)
	if string(got) != want {
		t.Fatalf("Encode(%.200q) = %.200q, want %.200q", parts, got, want)
	}
	all := string(bytes.Join(parts, nil))
	for _, rest := range []string{"", "0", "\r\n", "\x00\xff", want} {
		checkDecode(t, want+rest, wide, body(all, len(want)))
	}
}

// P14.3, P14.5
func TestEncode(t *testing.T) {
	for _, c := range []struct {
		parts [][]byte
		want  string
	}{
		{nil, "0\r\n\r\n"},
		{partsOf(""), "0\r\n\r\n"},
		{[][]byte{nil, {}}, "0\r\n\r\n"},
		{partsOf("abc"), "3\r\nabc\r\n0\r\n\r\n"},
		{partsOf("", "abc", "", "d", ""), "3\r\nabc\r\n1\r\nd\r\n0\r\n\r\n"},
		{partsOf("0", "\r\n", "\x00\xff"), "1\r\n0\r\n2\r\n\r\n\r\n2\r\n\x00\xff\r\n0\r\n\r\n"},
		{partsOf("0123456789"), "a\r\n0123456789\r\n0\r\n\r\n"},
		{partsOf("0123456789abcdef"), "10\r\n0123456789abcdef\r\n0\r\n\r\n"},
		{partsOf("0\r\n\r\n"), "5\r\n0\r\n\r\n\r\n0\r\n\r\n"},
	} {
		if got := chunked.Encode(c.parts...); string(got) != c.want {
			t.Errorf("Encode(%q) = %q, want %q", c.parts, got, c.want)
		}
		checkEncode(t, c.parts)
	}
}

// P14.3, P14.5: parts of all lengths around the powers of 16, and parts with each byte.
func TestEncodeLengths(t *testing.T) {
	for n := range 600 {
		checkEncode(t, partsOf(strings.Repeat("x", n)))
		checkEncode(t, partsOf(strings.Repeat("x", n), strings.Repeat("y", 600-n)))
	}
	for _, n := range []int{0xfff, 0x1000, 0xffff, 0x10000, 0xabcde, 1 << 22} {
		checkEncode(t, partsOf(strings.Repeat("x", n)))
	}
	var all [][]byte
	for n := range 256 {
		all = append(all, []byte{byte(n)})
	}
	checkEncode(t, all)
	checkEncode(t, [][]byte{bytes.Join(all, nil)})
}

// P14.5: the limits that are just great enough for an encoded body, and those that are not.
func TestEncodeLimits(t *testing.T) {
	for n := 1; n < 300; n++ {
		b := string(chunked.Encode([]byte(strings.Repeat("x", n))))
		digits := len(fmt.Sprintf("%x", n))
		checkWritten(t, b, api.Limits{Line: digits, Body: n}, body(strings.Repeat("x", n), len(b)))
		checkWritten(t, b, api.Limits{Line: digits, Body: n - 1}, wrong(413, digits+1))
		checkWritten(t, b, api.Limits{Line: digits - 1, Body: n}, wrong(400, digits-1))
	}
}

// P14.1 to P14.5: many chunks and trailers, and long ones.
func TestLong(t *testing.T) {
	const n = 20000
	checkEncode(t, slices.Repeat([][]byte{{'a'}, {}, {'\r', '\n'}}, n))
	long := strings.Repeat("x", n)
	trailers := strings.Repeat("x: y\r\n", n)
	checkDecode(t, "0\r\n"+trailers+"\r\n", api.Limits{Line: 4, Head: 6 * n, Fields: n}, body("", 6*n+5))
	checkDecode(t, "0\r\n"+trailers+"\r\n", api.Limits{Line: 4, Head: 6*n - 1, Fields: n}, wrong(431, 6*n+2))
	checkDecode(t, "0\r\n"+trailers+"\r\n", api.Limits{Line: 4, Head: 6 * n, Fields: n - 1}, wrong(431, 6*n+2))
	checkDecode(t, "0;"+long+"\r\n"+long+":"+long+"\r\n\r\n", wide, body("", 3*n+9))
	checkDecode(t, strings.Repeat("0", n)+"1"+strings.Repeat(" ", n)+"\r\na\r\n0\r\n\r\n", api.Limits{Line: 2*n + 1, Body: 1}, body("a", 2*n+11))
	checkDecode(t, strings.Repeat("1\r\na\r\n", n)+"1\r\n", api.Limits{Line: 1, Body: n}, wrong(413, 6*n+2))
}

// randomBody returns a body, or what a few wrong bytes make of it.
func randomBody(random *rand.Rand) string {
	var b strings.Builder
	for range random.Intn(4) {
		n := random.Intn(20)
		fmt.Fprintf(&b, []string{"%x", "%X", "0%x;", "%x ;x=y", "%x\t"}[random.Intn(5)], n)
		b.WriteString("\r\n" + strings.Repeat("\r\nab"[random.Intn(4):], 20)[:n] + "\r\n")
	}
	b.WriteString("0\r\n")
	for range random.Intn(3) {
		b.WriteString([]string{"x: y\r\n", "ab:\r\n", "x\r\n"}[random.Intn(3)])
	}
	b.WriteString("\r\nrest")
	s := b.String()
	for range random.Intn(3) {
		i := random.Intn(len(s))
		s = s[:i] + []string{"", "\r", "\n", "0", ";", " ", "\x00", "\xff"}[random.Intn(8)] + s[i+random.Intn(2):]
	}
	return s
}

// P14.1 to P14.5: random bodies, limits and parts.
func TestRandom(t *testing.T) {
	random := rand.New(rand.NewSource(14))
	for range 100000 {
		l := api.Limits{Line: random.Intn(12), Head: random.Intn(16), Fields: random.Intn(4), Body: random.Intn(60)}
		if random.Intn(2) == 0 {
			l = wide
		}
		checkOf(t, randomBody(random), l)
	}
	for range 5000 {
		parts := make([][]byte, random.Intn(6))
		for i := range parts {
			parts[i] = make([]byte, random.Intn(40))
			random.Read(parts[i])
		}
		checkEncode(t, parts)
	}
}

// Arguments stay as they are, also behind the ends of slices.
func TestArgumentsStay(t *testing.T) {
	b := []byte("3\r\nabc\r\n0\r\nx: y\r\n\r\nand more")
	old := slices.Clone(b)
	parts := [][]byte{b[:3], b[:0], b[3:9], b[9:], b}
	for n := range len(b) {
		chunked.Decode(b[:n], wide)
		chunked.Encode(b[:n], b[n:])
		result := chunked.Encode(parts[:n%len(parts)]...)
		overwrite(result, 'x')
	}
	if !slices.Equal(b, old) || len(parts[0]) != 3 || len(parts[4]) != len(b) {
		t.Errorf("%q", b)
	}
}

// P14.2 to P14.4: results share no memory with arguments and each other.
func TestResultsShareNothing(t *testing.T) {
	b := []byte("3\r\nabc\r\n0\r\n\r\n")
	first, _, _ := chunked.Decode(b, wide)
	second, _, _ := chunked.Decode(b, wide)
	overwrite(b, 'x')
	overwrite(second, 'y')
	if string(first) != "abc" {
		t.Errorf("%q", first)
	}
	part := []byte("abc")
	one, two := chunked.Encode(part), chunked.Encode(part)
	overwrite(part, 'x')
	overwrite(two, 'y')
	if string(one) != "3\r\nabc\r\n0\r\n\r\n" {
		t.Errorf("%q", one)
	}
	none, other := chunked.Encode(), chunked.Encode()
	overwrite(none, 'x')
	if string(other) != "0\r\n\r\n" || string(chunked.Encode()) != "0\r\n\r\n" {
		t.Errorf("%q", other)
	}
}

// The functions may be called concurrently.
func TestConcurrent(t *testing.T) {
	var group sync.WaitGroup
	for i := range 8 {
		group.Go(func() {
			random := rand.New(rand.NewSource(int64(i)))
			for range 300 {
				s := randomBody(random)
				want := resultOf(s, wide)
				data, n, err := chunked.Decode([]byte(s), wide)
				if string(data) != want.data || n != want.n || (err == nil) != (want.n > 0) {
					t.Errorf("Decode(%q) = %q, %d, %v", s, data, n, err)
				}
				if got := chunked.Encode([]byte(s)); string(got) != encoded(partsOf(s)) {
					t.Errorf("Encode(%q) = %q", s, got)
				}
			}
		})
	}
	group.Wait()
}
