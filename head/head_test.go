package head_test

import (
	"errors"
	"fmt"
	"math/big"
	"math/rand"
	"regexp"
	"slices"
	"strings"
	"sync"
	"testing"

	"doorkeeper/api"
	"doorkeeper/fault"
	"doorkeeper/field"
	"doorkeeper/head"
	"doorkeeper/reqline"
)

// greatest is the greatest size for which Check is specified.
const greatest = 1 << 62

// The parts of values. Bytes that are not UTF-8 match a negated class, too.
var (
	element = regexp.MustCompile(`[^, \t]([^,]*[^, \t])?`)
	token   = regexp.MustCompile("\\A[A-Za-z0-9!#$%&'*+.^_`|~-]+\\z")
	noDigit = regexp.MustCompile(`[^0-9]`)
	methods = regexp.MustCompile(`\A(GET|HEAD|OPTIONS|POST|PUT|DELETE|PATCH|TRACE|CONNECT)\z`)
)

// result is what Check returns: the framing, or the part and the error that is wrapped.
type result struct {
	body head.Body
	part string
	err  error
}

func empty() result       { return result{body: head.Body{Kind: 0}} }
func length(n int) result { return result{body: head.Body{Kind: 1, Size: n}} }
func chunked() result     { return result{body: head.Body{Kind: 2}} }

func wrong(part string, s api.Status) result {
	return result{part: part, err: s}
}

func wrongLength(s api.Status, at int) result {
	return result{part: "content-length", err: api.Fault{Status: s, At: at}}
}

// list returns the fields whose names and values follow each other.
func list(texts ...string) []api.Field {
	var l []api.Field
	for pair := range slices.Chunk(texts, 2) {
		l = append(l, api.Field{Name: pair[0], Value: pair[1]})
	}
	return l
}

// head11 returns a head of HTTP/1.1 with a host and other fields.
func head11(texts ...string) head.Head {
	return headOf("GET", 1, append([]string{"host", "a"}, texts...)...)
}

func headOf(method string, minor int, texts ...string) head.Head {
	return head.Head{Line: reqline.Line{Method: method, Target: "/", Minor: minor}, Fields: list(texts...)}
}

// show returns the beginning of a head.
func show(h head.Head) string {
	return fmt.Sprintf("{%.40q %d %.200q}", h.Line.Method, h.Line.Minor, h.Fields)
}

// lower returns a text with small letters in place of A to Z.
func lower(s string) string {
	text := []byte(s)
	for i, c := range text {
		if c >= 'A' && c <= 'Z' {
			text[i] = c + 32
		}
	}
	return string(text)
}

// valuesOf returns the values of the fields with a name in lower case.
func valuesOf(h head.Head, name string) []string {
	var values []string
	for _, f := range h.Fields {
		if lower(f.Name) == name {
			values = append(values, f.Value)
		}
	}
	return values
}

// elementsOf returns the elements of values in lower case.
func elementsOf(values []string) []string {
	var elements []string
	for _, value := range values {
		for _, e := range element.FindAllString(value, -1) {
			elements = append(elements, lower(e))
		}
	}
	return elements
}

// codingError returns the status of the error of the codings in the values of transfer-encoding fields, or 0.
func codingError(values []string) api.Status {
	codings := elementsOf(values)
	for _, c := range codings {
		if !token.MatchString(c) {
			return 400
		}
	}
	last := len(codings) - 1
	switch {
	case last < 0, codings[last] != "chunked", slices.Contains(codings[:last], "chunked"):
		return 400
	case last > 0:
		return 501
	}
	return 0
}

// lengthOf returns the result for the value of a content-length field.
func lengthOf(text string, most int) result {
	if text == "" {
		return wrongLength(400, 0)
	}
	if place := noDigit.FindStringIndex(text); place != nil {
		return wrongLength(400, place[0])
	}
	n, _ := new(big.Int).SetString(text, 10)
	if n.Cmp(big.NewInt(int64(most))) > 0 {
		return wrongLength(413, 0)
	}
	return length(int(n.Int64()))
}

// resultOf returns the result of Check by the definition.
func resultOf(h head.Head, most int) result {
	hosts, encodings, lengths := valuesOf(h, "host"), valuesOf(h, "transfer-encoding"), valuesOf(h, "content-length")
	if len(hosts) > 1 || h.Line.Minor == 1 && len(hosts) == 0 {
		return wrong("host", 400)
	}
	if len(valuesOf(h, "authorization")) > 1 {
		return wrong("authorization", 400)
	}
	body := empty()
	if len(encodings) > 0 {
		if h.Line.Minor == 0 || len(lengths) > 0 {
			return wrong("transfer-encoding", 400)
		}
		if s := codingError(encodings); s != 0 {
			return wrong("transfer-encoding", s)
		}
		body = chunked()
	}
	if len(lengths) > 1 {
		return wrong("content-length", 400)
	}
	if len(lengths) == 1 {
		body = lengthOf(lengths[0], most)
	}
	if body.err == nil && !methods.MatchString(h.Line.Method) {
		return wrong("method", 501)
	}
	return body
}

// checkCheck checks Check against its result.
func checkCheck(t *testing.T, h head.Head, most int, want result) {
	t.Helper()
	body, err := head.Check(h, most)
	if body != want.body {
		t.Fatalf("Check(%s, %d) = %+v, %v, want %+v", show(h), most, body, err, want.body)
	}
	if want.err == nil {
		if err != nil {
			t.Fatalf("Check(%s, %d): error %v", show(h), most, err)
		}
		return
	}
	if err == nil || err.Error() != want.part+": "+want.err.Error() || errors.Unwrap(err) != want.err {
		t.Fatalf("Check(%s, %d): error %v around %#v, want %s around %#v", show(h), most, err, errors.Unwrap(err), want.part, want.err)
	}
	checkFound(t, err, want.err)
}

// checkFound checks that layer 1 finds the status and the offset of an error, and no offset of a status.
func checkFound(t *testing.T, err, want error) {
	t.Helper()
	s, ok := fault.Status(err)
	wantStatus, _ := fault.Status(want)
	if s != wantStatus || !ok || !errors.Is(err, wantStatus) {
		t.Fatalf("status %d, %t, want %d", s, ok, wantStatus)
	}
	at, ok := fault.At(err)
	if f, isFault := want.(api.Fault); ok != isFault || at != f.At {
		t.Fatalf("offset %d, %t, want %d, %t", at, ok, f.At, isFault)
	}
}

// checkOf checks Check against the definition.
func checkOf(t *testing.T, h head.Head, most int) {
	t.Helper()
	checkCheck(t, h, most, resultOf(h, most))
}

// checkWritten checks Check, and the definition as well, against a result that is written out.
func checkWritten(t *testing.T, h head.Head, most int, want result) {
	t.Helper()
	if got := resultOf(h, most); got != want {
		t.Errorf("the definition gives %+v for %s, want %+v", got, show(h), want)
	}
	checkCheck(t, h, most, want)
}

// eachList calls a function for all lists of up to n texts.
func eachList(texts []string, n int, call func(list []string)) {
	call(nil)
	if n == 0 {
		return
	}
	for _, text := range texts {
		eachList(texts, n-1, func(list []string) {
			call(append([]string{text}, list...))
		})
	}
}

// fieldsOf returns the names and values of the fields with a name and these values.
func fieldsOf(name string, values []string) []string {
	var texts []string
	for _, value := range values {
		texts = append(texts, name, value)
	}
	return texts
}

// P13.1: the example of the chapter.
func TestExample(t *testing.T) {
	h := head11("content-length", "5")
	body, err := head.Check(h, 100)
	if body != (head.Body{Kind: head.Length, Size: 5}) || err != nil {
		t.Errorf("%+v, %v", body, err)
	}
	h.Fields = append(h.Fields, api.Field{Name: "transfer-encoding", Value: "chunked"})
	body, err = head.Check(h, 100)
	if body != (head.Body{}) || err == nil || err.Error() != "transfer-encoding: status 400" {
		t.Errorf("%+v, %v", body, err)
	}
	if head.Empty != 0 || head.Length != 1 || head.Chunked != 2 {
		t.Error(head.Empty, head.Length, head.Chunked)
	}
}

// P13.1: a head without errors.
func TestFraming(t *testing.T) {
	checkWritten(t, head11(), 0, empty())
	checkWritten(t, head11("accept", "*", "x", "chunked", "trailer", "5"), 100, empty())
	checkWritten(t, head11("content-length", "0"), 100, length(0))
	checkWritten(t, head11("content-length", "5"), 100, length(5))
	checkWritten(t, head11("transfer-encoding", "chunked"), 0, chunked())
	checkWritten(t, headOf("GET", 0), 0, empty())
	checkWritten(t, headOf("GET", 0, "content-length", "7"), 7, length(7))
	checkWritten(t, headOf("POST", 2, "transfer-encoding", "chunked"), 7, chunked())
	checkWritten(t, head11("authorization", "Basic YQ==", "content-length", "3"), 9, length(3))
	checkWritten(t, head.Head{Line: reqline.Line{Method: "HEAD"}}, 0, empty())
}

// P13.1: the error 1.
func TestHostFields(t *testing.T) {
	bad := wrong("host", 400)
	for _, c := range []struct {
		values           []string
		one, zero, other result
	}{
		{nil, bad, empty(), empty()},
		{[]string{"a"}, empty(), empty(), empty()},
		{[]string{""}, empty(), empty(), empty()},
		{[]string{"a, b"}, empty(), empty(), empty()},
		{[]string{"\x00"}, empty(), empty(), empty()},
		{[]string{"a", "a"}, bad, bad, bad},
		{[]string{"a", "b", "c"}, bad, bad, bad},
		{[]string{"", ""}, bad, bad, bad},
	} {
		fields := fieldsOf("Host", c.values)
		checkWritten(t, headOf("GET", 1, fields...), 0, c.one)
		checkWritten(t, headOf("GET", 0, fields...), 0, c.zero)
		for _, minor := range []int{2, 9, 10, -1, 1 << 32, -1 << 63} {
			checkWritten(t, headOf("GET", minor, fields...), 0, c.other)
		}
	}
}

// P13.1: the error 2.
func TestAuthorizationFields(t *testing.T) {
	for _, minor := range []int{0, 1, 2} {
		h := headOf("GET", minor, "host", "a", "Authorization", "Basic YQ==")
		checkWritten(t, h, 0, empty())
		h.Fields = append(h.Fields, list("proxy-authorization", "b", "AUTHORIZATION", "Basic YQ==")...)
		checkWritten(t, h, 0, wrong("authorization", 400))
		h.Fields = append(h.Fields, list("authorization", "")...)
		checkWritten(t, h, 0, wrong("authorization", 400))
	}
	checkWritten(t, head11("authorization", "", "authorization", ""), 0, wrong("authorization", 400))
	checkWritten(t, head11("authorization", "a,b"), 0, empty())
}

// P13.1: the error 3.
func TestTransferEncodingAlone(t *testing.T) {
	bad := wrong("transfer-encoding", 400)
	for _, value := range []string{"chunked", "gzip, chunked", "gzip", ""} {
		checkWritten(t, headOf("GET", 0, "transfer-encoding", value), 9, bad)
		checkWritten(t, headOf("GET", 0, "host", "a", "transfer-encoding", value, "content-length", "5"), 9, bad)
		for _, size := range []string{"5", "0", "", "x", "99"} {
			checkWritten(t, head11("content-length", size, "transfer-encoding", value), 9, bad)
			checkWritten(t, head11("Transfer-Encoding", value, "Content-Length", size), 9, bad)
			checkWritten(t, head11("content-length", size, "transfer-encoding", value, "content-length", size), 9, bad)
		}
	}
	for _, minor := range []int{2, 3, -1, 1 << 32} {
		checkWritten(t, headOf("GET", minor, "transfer-encoding", "chunked"), 9, chunked())
		checkWritten(t, headOf("GET", minor, "transfer-encoding", "chunked", "content-length", "5"), 9, bad)
	}
}

// P13.1: the errors 4 and 5.
func TestCodings(t *testing.T) {
	good, bad, unknown := chunked(), wrong("transfer-encoding", 400), wrong("transfer-encoding", 501)
	for _, c := range []struct {
		want   result
		values []string
	}{
		{good, []string{"chunked"}},
		{good, []string{"Chunked"}},
		{good, []string{"CHUNKED"}},
		{good, []string{" ,\tchunked , "}},
		{good, []string{"", "chunked", ",", " "}},

		{bad, []string{""}},
		{bad, []string{" ", ",", "\t,"}},
		{bad, []string{"gzip"}},
		{bad, []string{"identity"}},
		{bad, []string{"chunked", "identity"}},
		{bad, []string{"chunked, gzip"}},
		{bad, []string{"chunked", "gzip"}},
		{bad, []string{"gzip", "deflate"}},
		{bad, []string{"chunked, chunked"}},
		{bad, []string{"chunked", "CHUNKED"}},
		{bad, []string{"chunked, gzip, chunked"}},
		{bad, []string{"gzip, chunked, deflate, chunked"}},
		{bad, []string{"gzip, chunked", "chunked"}},
		{bad, []string{"chunked, chunked, chunked"}},
		{bad, []string{"chunked chunked"}},
		{bad, []string{"gzip chunked"}},
		{bad, []string{"chunked;q=1"}},
		{bad, []string{"gzip;q=1, chunked"}},
		{bad, []string{"g zip", "chunked"}},
		{bad, []string{"chunked, g zip"}},
		{bad, []string{`"chunked"`}},
		{bad, []string{`"a,b", chunked`}},
		{bad, []string{"chunked\x00"}},
		{bad, []string{"\x0bchunked"}},
		{bad, []string{"chunked\r\n"}},
		{bad, []string{"\u00a0chunked"}},
		{bad, []string{"chun\u212aed"}},
		{bad, []string{"xchunked"}},
		{bad, []string{"chunke"}},
		{bad, []string{"chunkedd"}},

		{unknown, []string{"gzip, chunked"}},
		{unknown, []string{"gzip", "chunked"}},
		{unknown, []string{"GZIP ,,Deflate", "", "Chunked,"}},
		{unknown, []string{"identity, chunked"}},
		{unknown, []string{"xchunked, chunked"}},
		{unknown, []string{"!, chunked"}},
	} {
		checkWritten(t, head11(fieldsOf("transfer-encoding", c.values)...), 0, c.want)
		checkWritten(t, headOf("POST", 1, append(fieldsOf("Transfer-Encoding", c.values), "Host", "a")...), greatest, c.want)
	}
}

// P13.1: all lists of few codings, in one field and in several.
func TestCodingsOfAllLists(t *testing.T) {
	eachList([]string{"chunked", "Chunked", "gzip", "", "a b", " x", "\x80"}, 4, func(codings []string) {
		checkOf(t, head11("transfer-encoding", strings.Join(codings, ",")), 0)
		checkOf(t, head11(fieldsOf("transfer-encoding", codings)...), 0)
		half := len(codings) / 2
		checkOf(t, head11("transfer-encoding", strings.Join(codings[:half], " ,"), "transfer-encoding", strings.Join(codings[half:], ",\t")), 0)
	})
}

// P13.1: the errors 6 and 7.
func TestContentLength(t *testing.T) {
	for _, c := range []struct {
		text string
		most int
		want result
	}{
		{"0", 0, length(0)},
		{"00", 0, length(0)},
		{"5", 5, length(5)},
		{"007", 7, length(7)},
		{"100", 100, length(100)},
		{"4611686018427387904", greatest, length(greatest)},
		{"0004611686018427387903", greatest, length(greatest - 1)},
		{strings.Repeat("0", 1000) + "1", 1, length(1)},

		{"1", 0, wrongLength(413, 0)},
		{"6", 5, wrongLength(413, 0)},
		{"101", 100, wrongLength(413, 0)},
		{"0101", 100, wrongLength(413, 0)},
		{"4611686018427387905", greatest, wrongLength(413, 0)},
		{"9223372036854775808", greatest, wrongLength(413, 0)},
		{"18446744073709551616", greatest, wrongLength(413, 0)},
		{"18446744073709551621", 5, wrongLength(413, 0)},
		{strings.Repeat("9", 1000), greatest, wrongLength(413, 0)},

		{"", 5, wrongLength(400, 0)},
		{"x", 5, wrongLength(400, 0)},
		{"+5", 5, wrongLength(400, 0)},
		{"-0", 5, wrongLength(400, 0)},
		{"-5", 5, wrongLength(400, 0)},
		{" 5", 5, wrongLength(400, 0)},
		{"5 ", 5, wrongLength(400, 1)},
		{"5, 5", 5, wrongLength(400, 1)},
		{"5,5", 5, wrongLength(400, 1)},
		{"0x5", 9, wrongLength(400, 1)},
		{"5.0", 9, wrongLength(400, 1)},
		{"1e1", 99, wrongLength(400, 1)},
		{"1_0", 99, wrongLength(400, 1)},
		{"12a", 100, wrongLength(400, 2)},
		{"999a", 100, wrongLength(400, 3)},
		{"5\x00", 100, wrongLength(400, 1)},
		{"5\r\n", 100, wrongLength(400, 1)},
		{"\u0665", 100, wrongLength(400, 0)},
		{"1\uff11", 100, wrongLength(400, 1)},
		{strings.Repeat("9", 1000) + "x", 5, wrongLength(400, 1000)},
	} {
		for _, minor := range []int{0, 1, 2} {
			checkWritten(t, headOf("PUT", minor, "host", "a", "Content-Length", c.text), c.most, c.want)
		}
		several := wrong("content-length", 400)
		checkWritten(t, head11("content-length", c.text, "content-length", c.text), c.most, several)
		checkWritten(t, headOf("GET", 0, "content-length", "5", "x", "y", "CONTENT-LENGTH", c.text), c.most, several)
		checkWritten(t, head11("content-length", c.text, "content-length", "", "content-length", "5"), c.most, several)
	}
}

// P13.1: each byte in each place of a number, and all limits around it.
func TestContentLengthBytes(t *testing.T) {
	for n := range 256 {
		c := string([]byte{byte(n)})
		for _, text := range []string{c, c + "12", "1" + c + "2", "12" + c} {
			for _, most := range []int{0, 9, 12, 500, greatest} {
				checkOf(t, head11("content-length", text), most)
			}
		}
	}
	for n := range 300 {
		for most := max(n-2, 0); most <= n+2; most++ {
			checkOf(t, head11("content-length", fmt.Sprint(n)), most)
		}
	}
}

// P13.1: the error 8.
func TestMethods(t *testing.T) {
	bad := wrong("method", 501)
	for _, m := range []string{"GET", "HEAD", "OPTIONS", "POST", "PUT", "DELETE", "PATCH", "TRACE", "CONNECT"} {
		checkWritten(t, headOf(m, 1, "host", "a"), 5, empty())
		checkWritten(t, headOf(m, 0, "content-length", "5"), 5, length(5))
		checkWritten(t, headOf(m, 1, "host", "a", "transfer-encoding", "chunked"), 5, chunked())
		for _, other := range []string{lower(m), m + "S", m + " ", " " + m, m[1:], m[:1] + lower(m[1:]), m + "\x00"} {
			checkWritten(t, headOf(other, 1, "host", "a"), 5, bad)
			checkWritten(t, headOf(other, 0, "content-length", "5"), 5, bad)
			checkWritten(t, headOf(other, 1, "host", "a", "transfer-encoding", "chunked"), 5, bad)
		}
	}
	for _, m := range []string{"", "PROPFIND", "PRI", "LINK", "\x80", "GET/", "*", "GE\u0422"} {
		checkWritten(t, headOf(m, 1, "host", "a"), 5, bad)
	}
}

// P13.1: the error is that of the first rule that is broken, whatever the other errors and the order of the fields are.
func TestCheckOrder(t *testing.T) {
	broken := []struct {
		texts []string
		want  result
	}{
		{[]string{"host", "b"}, wrong("host", 400)},
		{[]string{"authorization", "a", "authorization", "b"}, wrong("authorization", 400)},
		{[]string{"transfer-encoding", "chunked", "content-length", "5"}, wrong("transfer-encoding", 400)},
		{[]string{"transfer-encoding", "gzip"}, wrong("transfer-encoding", 400)},
		{[]string{"transfer-encoding", "gzip, chunked"}, wrong("transfer-encoding", 501)},
		{[]string{"content-length", "7", "content-length", "x"}, wrong("content-length", 400)},
		{[]string{"content-length", "x"}, wrongLength(400, 0)},
		{[]string{"content-length", "10"}, wrongLength(413, 0)},
		{nil, wrong("method", 501)},
	}
	for i, first := range broken {
		h := headOf("get", 1, append([]string{"host", "a"}, first.texts...)...)
		checkWritten(t, h, 9, first.want)
		for _, second := range broken[i+1:] {
			before, after := slices.Concat(second.texts, first.texts), slices.Concat(first.texts, second.texts)
			for _, texts := range [][]string{before, after} {
				checkOf(t, headOf("get", 0, texts...), 9)
				checkOf(t, headOf("GET", 1, texts...), 9)
				checkOf(t, headOf("GET", 1, append([]string{"host", "a"}, texts...)...), 9)
			}
		}
	}
	all := headOf("get", 1, "content-length", "x", "content-length", "99", "transfer-encoding", "gzip", "authorization", "a", "authorization", "b")
	checkWritten(t, all, 9, wrong("host", 400))
	all.Fields = append(all.Fields, list("host", "a")...)
	checkWritten(t, all, 9, wrong("authorization", 400))
	all.Fields = slices.Delete(all.Fields, 3, 4)
	checkWritten(t, all, 9, wrong("transfer-encoding", 400))
	all.Fields = slices.Delete(all.Fields, 2, 3)
	checkWritten(t, all, 9, wrong("content-length", 400))
	all.Fields = slices.Delete(all.Fields, 1, 2)
	checkWritten(t, all, 9, wrongLength(400, 0))
	all.Fields = slices.Delete(all.Fields, 0, 1)
	checkWritten(t, all, 9, wrong("method", 501))
}

// P13.1: all combinations of parts.
func TestCheckParts(t *testing.T) {
	hosts := [][]string{nil, {"a"}, {"a", "b"}}
	authorizations := [][]string{nil, {"Basic YQ=="}, {"a", "a"}}
	encodings := [][]string{nil, {""}, {"chunked"}, {"gzip"}, {"gzip", "Chunked"}, {"chunked", "chunked"}, {"a b, chunked"}}
	lengths := [][]string{nil, {""}, {"5"}, {"x"}, {"007"}, {"5x"}, {"99"}, {"5", "5"}, {"x", "y", "z"}}
	for _, a := range hosts {
		for _, b := range authorizations {
			for _, c := range encodings {
				for _, d := range lengths {
					texts := slices.Concat(fieldsOf("Content-Length", d), fieldsOf("host", a), fieldsOf("TRANSFER-ENCODING", c), fieldsOf("authorization", b))
					for _, minor := range []int{-1, 0, 1, 2} {
						for _, method := range []string{"GET", "POST", "get", ""} {
							for _, most := range []int{0, 5, 7, greatest} {
								checkOf(t, headOf(method, minor, texts...), most)
							}
						}
					}
				}
			}
		}
	}
}

// P13.1: all short lists of fields.
func TestCheckAllLists(t *testing.T) {
	pieces := []string{"host a", "HOST b", "authorization a", "Authorization b", "transfer-encoding chunked", "Transfer-Encoding x,chunked", "content-length 5", "Content-Length 6", "x chunked"}
	eachList(pieces, 4, func(pieces []string) {
		var texts []string
		for _, piece := range pieces {
			texts = append(texts, strings.Fields(piece)...)
		}
		for _, minor := range []int{0, 1} {
			checkOf(t, headOf("GET", minor, texts...), 5)
		}
	})
}

// P13.1, P13.2: names are compared without regard to the case of letters, and to nothing else.
func TestNames(t *testing.T) {
	for _, name := range []string{"authorization", "transfer-encoding", "content-length", "host", "connection"} {
		values := map[string]string{"transfer-encoding": "chunked", "content-length": "5", "connection": "close"}
		value := values[name]
		others := []string{name + "s", "x-" + name, name[1:], name + " ", " " + name, name + ":", name + "\x00", strings.ReplaceAll(name, "o", "\u043e"), strings.ReplaceAll(name, "h", "\u04bb"), strings.ReplaceAll(name, "s", "\u017f"), strings.ReplaceAll(name, "-", "_"), strings.ReplaceAll(name, "-", "\r")}
		for i := range name {
			same := name[:i] + strings.ToUpper(name[i:i+1]) + name[i+1:]
			checkHead(t, head11(same, value))
			checkHead(t, head11(same, value, name, value))
			checkHead(t, headOf("GET", 1, same, value))
			for _, bit := range []byte{64, 128} {
				others = append(others, name[:i]+string([]byte{name[i] ^ bit})+name[i+1:])
			}
		}
		for _, other := range others {
			checkHead(t, head11(other, value))
			checkHead(t, head11(other, value, name, value))
			checkHead(t, headOf("GET", 1, other, value))
		}
	}
}

// keepsOf returns the result of Keeps by the definition.
func keepsOf(h head.Head) bool {
	elements := elementsOf(valuesOf(h, "connection"))
	if slices.Contains(elements, "close") {
		return false
	}
	return h.Line.Minor == 1 || slices.Contains(elements, "keep-alive")
}

// hostOf returns the result of Host by the definition.
func hostOf(h head.Head) string {
	return append(valuesOf(h, "host"), "")[0]
}

// checkHead checks all functions for a head against the definition.
func checkHead(t *testing.T, h head.Head) {
	t.Helper()
	checkOf(t, h, 5)
	if got := head.Keeps(h); got != keepsOf(h) {
		t.Fatalf("Keeps(%s) = %t", show(h), got)
	}
	if got := head.Host(h); got != hostOf(h) {
		t.Fatalf("Host(%s) = %.80q", show(h), got)
	}
	checkRequest(t, h, []byte("body"))
}

// checkRequest checks Request against its result.
func checkRequest(t *testing.T, h head.Head, body []byte) {
	t.Helper()
	r := head.Request(h, body)
	if r.Method != h.Line.Method || r.Target != h.Line.Target || r.Minor != h.Line.Minor {
		t.Fatalf("Request(%s) = %.200v", show(h), r)
	}
	if !slices.Equal(r.Fields, h.Fields) || !slices.Equal(r.Body, body) {
		t.Fatalf("Request(%s, %.80q) = %.200v", show(h), body, r)
	}
}

// P13.2: the results are written out.
func TestKeeps(t *testing.T) {
	for _, c := range []struct {
		values    []string
		one, zero bool
	}{
		{nil, true, false},
		{[]string{""}, true, false},
		{[]string{"close"}, false, false},
		{[]string{"Close"}, false, false},
		{[]string{"CLOSE"}, false, false},
		{[]string{"keep-alive"}, true, true},
		{[]string{"Keep-Alive"}, true, true},
		{[]string{"KEEP-ALIVE"}, true, true},
		{[]string{"keep-alive, close"}, false, false},
		{[]string{"close, keep-alive"}, false, false},
		{[]string{"keep-alive", "close"}, false, false},
		{[]string{"close", "keep-alive"}, false, false},
		{[]string{"a", "", "b ,\tCLOSE\t, c"}, false, false},
		{[]string{"a", "", "b ,\tKeep-alive\t, c"}, true, true},
		{[]string{",x,keep-alive,", "closed"}, true, true},
		{[]string{"upgrade"}, true, false},
		{[]string{"closed"}, true, false},
		{[]string{"clos"}, true, false},
		{[]string{"no close"}, true, false},
		{[]string{"close;q=1"}, true, false},
		{[]string{`"close"`}, true, false},
		{[]string{"keep", "alive"}, true, false},
		{[]string{"keep-alive keep-alive"}, true, false},
		{[]string{"keepalive"}, true, false},
		{[]string{"\u212aeep-alive"}, true, false},
		{[]string{"clo\u017fe"}, true, false},
	} {
		for _, minor := range []int{0, 1, 2, 11, -1, 1 << 32, 1<<32 + 1} {
			want := c.zero
			if minor == 1 {
				want = c.one
			}
			for _, h := range []head.Head{
				headOf("GET", minor, fieldsOf("connection", c.values)...),
				headOf("", minor, append(fieldsOf("Connection", c.values), "x", "close")...),
				headOf("POST", minor, append([]string{"keep-alive", "close", "proxy-connection", "close, keep-alive"}, fieldsOf("CONNECTION", c.values)...)...),
			} {
				if got := head.Keeps(h); got != want || keepsOf(h) != want {
					t.Errorf("Keeps(%s) = %t, want %t", show(h), got, want)
				}
			}
		}
	}
}

// P13.2: all lists of few values.
func TestKeepsOfAllLists(t *testing.T) {
	eachList([]string{"close", "Keep-Alive", "x", "", "keep-alive, CLOSE", "close x", "keep-alive,"}, 4, func(values []string) {
		for _, minor := range []int{0, 1, 2} {
			h := headOf("GET", minor, fieldsOf("Connection", values)...)
			if got := head.Keeps(h); got != keepsOf(h) {
				t.Fatalf("Keeps(%s) = %t", show(h), got)
			}
		}
	})
}

// P13.2: the results are written out. A head with errors has a host, too.
func TestHost(t *testing.T) {
	for _, c := range []struct {
		texts []string
		want  string
	}{
		{nil, ""},
		{[]string{"host", "a"}, "a"},
		{[]string{"Host", "A:80"}, "A:80"},
		{[]string{"HOST", " \x00\xff, b "}, " \x00\xff, b "},
		{[]string{"x", "y", "hOST", "a", "z", "b"}, "a"},
		{[]string{"host", "a", "host", "b"}, "a"},
		{[]string{"Host", "b", "host", "a", "HOST", "c"}, "b"},
		{[]string{"host", "", "host", "b"}, ""},
		{[]string{"hosts", "a", "x-host", "b", "", "c", "host ", "d", "ho\u017ft", "e"}, ""},
		{[]string{"hosts", "a", "host", "b"}, "b"},
	} {
		for _, minor := range []int{0, 1, 2} {
			h := headOf("x", minor, c.texts...)
			if got := head.Host(h); got != c.want || hostOf(h) != c.want {
				t.Errorf("Host(%s) = %q, want %q", show(h), got, c.want)
			}
		}
	}
}

// P13.3
func TestRequest(t *testing.T) {
	lines := []reqline.Line{{}, {Method: "GET", Target: "/a?b", Minor: 1}, {Method: "get", Target: "", Minor: 0}, {Method: "\x00", Target: "\xff ", Minor: -7}, {Method: "OPTIONS", Target: "*", Minor: 1 << 62}}
	fields := [][]api.Field{nil, {}, list("host", "a"), list("Host", " A ", "", "", "host", "b", "x", "\x00\xff"), list("b", "1", "a", "2", "b", "1")}
	bodies := [][]byte{nil, {}, []byte("body"), {0, 255, '\r', '\n'}, make([]byte, 1<<20)}
	for _, line := range lines {
		for _, l := range fields {
			for _, body := range bodies {
				checkRequest(t, head.Head{Line: line, Fields: l}, body)
			}
		}
	}
	r := head.Request(headOf("PUT", 1, "Host", "a", "b", "C"), []byte("xy"))
	if r.Method != "PUT" || r.Target != "/" || r.Minor != 1 || string(r.Body) != "xy" || !slices.Equal(r.Fields, list("Host", "a", "b", "C")) {
		t.Errorf("%+v", r)
	}
}

// Heads that the layers below read.
func TestReadHeads(t *testing.T) {
	for _, c := range []struct {
		text  string
		want  result
		keeps bool
	}{
		{"GET / HTTP/1.1\nHost: a", empty(), true},
		{"GET / HTTP/1.0", empty(), false},
		{"GET / HTTP/1.0\nConnection: \tKeep-Alive", empty(), true},
		{"PUT /a HTTP/1.1\nHOST:a\nContent-Length:\t 5 ", length(5), true},
		{"PUT /a HTTP/1.1\nHost: a\nTransfer-Encoding: Chunked\nConnection: te, close", chunked(), false},
		{"GET / HTTP/1.1", wrong("host", 400), true},
		{"put / HTTP/1.1\nhost: a", wrong("method", 501), true},
	} {
		lines := strings.Split(c.text, "\n")
		line, err := reqline.Parse(lines[0])
		fields, fieldsErr := field.All(lines[1:], 9)
		if err != nil || fieldsErr != nil {
			t.Fatalf("%q: %v, %v", c.text, err, fieldsErr)
		}
		h := head.Head{Line: line, Fields: fields}
		checkWritten(t, h, 9, c.want)
		if got := head.Keeps(h); got != c.keeps {
			t.Errorf("Keeps of %q = %t", c.text, got)
		}
		checkHead(t, h)
	}
}

// Many fields with what matters in any place, and long texts.
func TestLong(t *testing.T) {
	const size = 100000
	var many []api.Field
	for i := range size {
		many = append(many, api.Field{Name: fmt.Sprint("x-", i), Value: "close, chunked"})
	}
	many[size/2].Name, many[size-2] = "Host", api.Field{Name: "Connection", Value: "close"}
	h := headOf("POST", 1)
	h.Fields = many
	checkHead(t, h)
	many[size-1] = api.Field{Name: "Content-Length", Value: strings.Repeat("0", size) + "5"}
	checkHead(t, h)
	many[0].Name = "transfer-encoding"
	checkHead(t, h)
	for i := range many {
		many[i] = api.Field{Name: "Transfer-Encoding", Value: " , "}
	}
	many[0] = api.Field{Name: "Host", Value: strings.Repeat("a", size)}
	many[1].Value = strings.Repeat("x,", size)
	checkHead(t, h)
	many[size-1].Value = "chunked"
	checkHead(t, h)
	many[1].Value = strings.Repeat(",\t", size)
	checkHead(t, h)
	many[1].Value = strings.Repeat("chunked,", size)
	checkHead(t, h)
}

// P13.1 to P13.3: random heads.
func TestRandom(t *testing.T) {
	random := rand.New(rand.NewSource(13))
	names := []string{"host", "Host", "authorization", "transfer-encoding", "Transfer-Encoding", "content-length", "CONTENT-LENGTH", "connection", "Connection", "x", ""}
	values := []string{"", "a", "5", "6", "05", "chunked", "Chunked", ",chunked", "gzip", "x, chunked", "close", "keep-alive", "Keep-Alive,x", "a b", "\x80", "99999999999999999999"}
	lines := []string{"GET", "HEAD", "POST", "CONNECT", "get", ""}
	for range 200000 {
		var texts []string
		if random.Intn(2) == 0 {
			texts = append(texts, "host", "a")
		}
		for range random.Intn(5) {
			texts = append(texts, names[random.Intn(len(names))], values[random.Intn(len(values))])
		}
		checkHead(t, headOf(lines[random.Intn(len(lines))], random.Intn(4)-1, texts...))
	}
}

// Arguments stay as they are, also behind the ends of slices.
func TestArgumentsStay(t *testing.T) {
	fields := list("Host", "A", "Transfer-Encoding", "Chunked , ", "Connection", "Keep-Alive, Close", "Content-Length", "5", "Authorization", "B", "behind", "C")
	body := []byte("body and more")
	oldFields, oldBody := slices.Clone(fields), slices.Clone(body)
	for n := range len(fields) {
		h := headOf("GET", 1)
		h.Fields = fields[:n]
		head.Check(h, 9)
		head.Keeps(h)
		head.Host(h)
		r := head.Request(h, body[:n])
		r.Fields, r.Body = append(r.Fields, api.Field{}), append(r.Body, 'x')
	}
	if !slices.Equal(fields, oldFields) || !slices.Equal(body, oldBody) {
		t.Errorf("%q, %q", fields, body)
	}
}

// P13.3: requests share no memory with heads, bodies and each other, whatever the sizes are.
func TestResultsShareNothing(t *testing.T) {
	for n := range 4 {
		h := headOf("GET", 1)
		h.Fields = list("host", "a", "b", "c", "d", "e", "f", "g")[:n]
		body := []byte("body")[:n]
		first, second := head.Request(h, body), head.Request(h, body)
		wantFields, wantBody := slices.Clone(h.Fields), slices.Clone(body)
		overwrite(h.Fields, api.Field{Name: "changed"})
		overwrite(body, 'x')
		overwrite(second.Fields, api.Field{Name: "changed"})
		overwrite(second.Body, 'y')
		if !slices.Equal(first.Fields, wantFields) || !slices.Equal(first.Body, wantBody) {
			t.Errorf("%+v", first)
		}
		overwrite(first.Fields, api.Field{})
		overwrite(first.Body, 'z')
		for _, c := range body[:cap(body)] {
			if c != 'x' {
				t.Errorf("%q", body[:cap(body)])
			}
		}
	}
}

// overwrite writes a value into all of a slice, also behind its end.
func overwrite[T any](l []T, value T) {
	l = l[:cap(l)]
	for i := range l {
		l[i] = value
	}
}

// The functions may be called concurrently.
func TestConcurrent(t *testing.T) {
	good, bad := head11("content-length", "5", "connection", "close"), head11("transfer-encoding", "gzip, chunked")
	var group sync.WaitGroup
	for range 8 {
		group.Go(func() {
			for range 100 {
				if body, err := head.Check(good, 5); body != (head.Body{Kind: head.Length, Size: 5}) || err != nil {
					t.Error(body, err)
				}
				if _, err := head.Check(bad, 5); !errors.Is(err, api.NotImplemented) {
					t.Error(err)
				}
				if head.Keeps(good) || !head.Keeps(bad) || head.Host(good) != "a" || len(head.Request(bad, nil).Fields) != 2 {
					t.Error("the results are different")
				}
			}
		})
	}
	group.Wait()
}
