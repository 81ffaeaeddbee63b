package fault_test

import (
	"errors"
	"math"
	"testing"

	"doorkeeper/api"
	"doorkeeper/fault"
)

// outer is an error of another package, with one error inside or none.
type outer struct{ inner error }

func (o outer) Error() string { return "outer" }
func (o outer) Unwrap() error { return o.inner }

// list is an error that cannot be compared: == panics for two of them.
type list []string

func (l list) Error() string { return "list" }

// endless is an error whose chain has no end.
type endless struct{}

func (e endless) Error() string { return "endless" }
func (e endless) Unwrap() error { return endless{} }

// broken is an error whose method Unwrap panics.
type broken struct{}

func (b broken) Error() string { return "broken" }
func (b broken) Unwrap() error { panic("broken") }

// claim is an error whose method As tells of a status and a fault that are not in its chain.
type claim struct{ inner error }

func (c claim) Error() string { return "claim" }
func (c claim) Unwrap() error { return c.inner }
func (c claim) As(target any) bool {
	switch t := target.(type) {
	case *api.Status:
		*t = api.NotImplemented
	case *api.Fault:
		*t = api.Fault{Status: api.NotImplemented, At: 99}
	}
	return true
}

// half is like claim, but says in the end that it has found nothing.
type half struct{ claim }

func (h half) As(target any) bool { return !h.claim.As(target) }

func deep(err error, levels int) error {
	for range levels {
		err = fault.In("x", err)
	}
	return err
}

// chains are errors with the status and the offset that the chapter gives them.
var chains = []struct {
	name   string
	err    error
	status api.Status
	has    bool
	at     int
	hasAt  bool
}{
	{"nil", nil, 0, false, 0, false},
	{"another error", errors.New("x"), 0, false, 0, false},
	{"another error, wrapped", fault.In("a", errors.New("x")), 0, false, 0, false},
	{"a status", api.NotFound, 404, true, 0, false},
	{"a status of zero", api.Status(0), 0, true, 0, false},
	{"a status without a reason", api.Status(-7), -7, true, 0, false},
	{"a status, wrapped", fault.In("a", api.NotFound), 404, true, 0, false},
	{"a fault", fault.New(400, 7), 400, true, 7, true},
	{"a zero fault", fault.New(0, 0), 0, true, 0, true},
	{"a fault before the beginning", fault.New(413, -3), 413, true, -3, true},
	{"a fault, wrapped", fault.In("a", fault.New(431, 2)), 431, true, 2, true},
	{"a fault, wrapped twice", fault.In("a", fault.In("b", fault.New(431, 2))), 431, true, 2, true},
	{"a fault in a type of another package", outer{fault.In("a", outer{fault.New(505, 8)})}, 505, true, 8, true},
	{"a status in a type of another package", outer{api.Unauthorized}, 401, true, 0, false},
	{"Unwrap that returns nil", fault.In("a", outer{nil}), 0, false, 0, false},
	{"an error that cannot be compared", fault.In("a", list{"b"}), 0, false, 0, false},
	{"a pointer to a fault, which is no fault", &api.Fault{Status: 400, At: 7}, 400, true, 0, false},
	{"a nil pointer, whose Unwrap panics", (*api.Fault)(nil), 0, false, 0, false},
	{"a nil pointer, wrapped", fault.In("a", (*api.Fault)(nil)), 0, false, 0, false},
	{"Unwrap that panics", fault.In("a", broken{}), 0, false, 0, false},
	{"a chain without an end", fault.In("a", endless{}), 0, false, 0, false},
	{"many levels", deep(fault.New(414, 1), 1<<16), 414, true, 1, true},
	{"As that tells of what is not there", claim{nil}, 0, false, 0, false},
	{"As that hides a fault", fault.In("a", claim{claim{fault.New(400, 7)}}), 400, true, 7, true},
	{"As that hides a status", claim{api.NotFound}, 404, true, 0, false},
	{"As that writes, and finds nothing", half{claim{nil}}, 0, false, 0, false},
}

// P1.1
func TestNew(t *testing.T) {
	for _, s := range []api.Status{0, -1, 200, 400, 431, 999, math.MaxInt, math.MinInt} {
		for _, at := range []int{0, 1, -1, 7, math.MaxInt, math.MinInt} {
			f, ok := fault.New(s, at).(api.Fault)
			if want := (api.Fault{Status: s, At: at}); !ok || f != want {
				t.Errorf("New(%d, %d) = %v, want %v", s, at, f, want)
			}
		}
	}
}

// P1.2
func TestIn(t *testing.T) {
	inner := errors.New("y")
	for _, c := range []struct {
		part string
		err  error
		text string
	}{
		{"target", fault.New(400, 7), "target: status 400"},
		{"target", api.NotFound, "target: status 404"},
		{"", inner, ": y"},
		{"a: b", inner, "a: b: y"},
		{"a\n%s\xff", inner, "a\n%s\xff: y"},
		{"framer", fault.In("head", api.NotImplemented), "framer: head: status 501"},
		{"a", errors.New(""), "a: "},
	} {
		err := fault.In(c.part, c.err)
		if err.Error() != c.text {
			t.Errorf("In(%q, %v) has the text %q, want %q", c.part, c.err, err.Error(), c.text)
		}
		u, ok := err.(interface{ Unwrap() error })
		if !ok || u.Unwrap() != c.err {
			t.Errorf("In(%q, %v) does not unwrap to it", c.part, c.err)
		}
	}
}

// P1.2
func TestInNil(t *testing.T) {
	if err := fault.In("a", nil); err != nil {
		t.Errorf("In of nil is %v", err)
	}
	if err := fault.In("", nil); err != nil {
		t.Errorf("In of nil without a part is %v", err)
	}
	var none *api.Fault
	if err := fault.In("a", none); err == nil || errors.Unwrap(err) != error(none) {
		t.Errorf("In of an error that holds a nil pointer does not unwrap to it")
	}
}

// P1.2
func TestInDoesNotChangeWhatItWraps(t *testing.T) {
	inner := fault.In("b", fault.New(400, 1))
	first, second := fault.In("a", inner), fault.In("c", inner)
	if first.Error() != "a: b: status 400" || second.Error() != "c: b: status 400" || inner.Error() != "b: status 400" {
		t.Errorf("texts %q, %q and %q", first, second, inner)
	}
}

// P1.3
func TestStatus(t *testing.T) {
	for _, c := range chains {
		if s, ok := fault.Status(c.err); s != c.status || ok != c.has {
			t.Errorf("%s: Status = %d, %t, want %d, %t", c.name, int(s), ok, int(c.status), c.has)
		}
	}
}

// P1.3
func TestAt(t *testing.T) {
	for _, c := range chains {
		if at, ok := fault.At(c.err); at != c.at || ok != c.hasAt {
			t.Errorf("%s: At = %d, %t, want %d, %t", c.name, at, ok, c.at, c.hasAt)
		}
	}
}

// P1.4
func TestMove(t *testing.T) {
	for _, c := range chains {
		for _, by := range []int{0, 1, -1, 1000, -1000} {
			got := fault.Move(c.err, by)
			want := c.err
			if c.hasAt {
				want = api.Fault{Status: c.status, At: c.at + by}
			}
			if !same(got, want) {
				t.Errorf("%s: Move by %d does not return what is expected", c.name, by)
			}
		}
	}
}

// same reports whether two errors are equal; all errors of chains can be compared.
func same(a, b error) bool {
	if a == nil || b == nil {
		return a == nil && b == nil
	}
	return a == b
}

// P1.4
func TestMoveToTheEndsOfInt(t *testing.T) {
	for _, c := range []struct{ at, by, want int }{
		{math.MaxInt - 1, 1, math.MaxInt},
		{math.MinInt + 1, -1, math.MinInt},
		{math.MinInt, math.MaxInt, -1},
		{0, math.MinInt, math.MinInt},
		{math.MaxInt, -math.MaxInt, 0},
	} {
		err := fault.Move(fault.In("a", fault.New(413, c.at)), c.by)
		if err != error(api.Fault{Status: 413, At: c.want}) {
			t.Errorf("Move of %d by %d = %#v", c.at, c.by, err)
		}
	}
}

// P1.4
func TestMoveKeepsItsArgument(t *testing.T) {
	err := fault.In("a", fault.New(400, 7))
	fault.Move(err, 3)
	if at, ok := fault.At(err); at != 7 || !ok || err.Error() != "a: status 400" {
		t.Errorf("the argument is %v at %d", err, at)
	}
}

// P1.4: an error that cannot be compared is returned as it is, too.
func TestMoveWithoutComparing(t *testing.T) {
	got, ok := fault.Move(list{"a", "b"}, 1).(list)
	if !ok || len(got) != 2 || got[0] != "a" || got[1] != "b" {
		t.Errorf("Move = %v", got)
	}
}

// P1.5
func TestReason(t *testing.T) {
	reasons := map[api.Status]string{
		200: "OK",
		301: "Moved Permanently",
		400: "Bad Request",
		401: "Unauthorized",
		404: "Not Found",
		405: "Method Not Allowed",
		413: "Content Too Large",
		414: "URI Too Long",
		431: "Request Header Fields Too Large",
		501: "Not Implemented",
		505: "HTTP Version Not Supported",
	}
	for _, s := range numbers() {
		if got := fault.Reason(s); got != reasons[s] {
			t.Errorf("Reason(%d) = %q, want %q", int(s), got, reasons[s])
		}
	}
}

// P1.5
func TestFinal(t *testing.T) {
	final := map[api.Status]bool{400: true, 413: true, 414: true, 431: true, 501: true, 505: true}
	for _, s := range numbers() {
		if got := fault.Final(s); got != final[s] {
			t.Errorf("Final(%d) = %t", int(s), got)
		}
	}
}

func numbers() []api.Status {
	l := []api.Status{math.MinInt, math.MaxInt, 1<<32 + 400, 1<<16 + 400}
	for n := -600; n <= 1100; n++ {
		l = append(l, api.Status(n))
	}
	return l
}

// P1.6
func TestLibraryFindsTheSame(t *testing.T) {
	inner := errors.New("y")
	errs := []error{
		inner, api.NotFound, fault.New(400, 7), outer{inner}, outer{fault.New(413, 1)}, list{"a"},
		fault.In("a", inner), fault.In("a", list{"a"}), fault.In("b", outer{api.BadRequest}), claim{api.NotFound},
	}
	targets := []error{
		nil, inner, errors.New("y"), api.NotFound, api.BadRequest, fault.New(400, 7), fault.New(400, 8),
		outer{inner}, list{"a"}, fault.In("a", inner), fault.In("a", list{"a"}), fault.In("b", inner),
	}
	for i, err := range errs {
		for _, part := range []string{"a", "b", ""} {
			w := fault.In(part, err)
			for j, target := range append(targets, err) {
				if errors.Is(w, target) != errors.Is(err, target) {
					t.Errorf("errors.Is differs for error %d in %q and target %d", i, part, j)
				}
			}
			sameAs[api.Status](t, err, w)
			sameAs[api.Fault](t, err, w)
			sameAs[outer](t, err, w)
			sameAs[interface{ As(any) bool }](t, err, w)
		}
	}
}

func sameAs[T comparable](t *testing.T, err, w error) {
	t.Helper()
	var a, b T
	found := errors.As(err, &a)
	if errors.As(w, &b) != found || a != b {
		t.Errorf("errors.As finds %v in %v, and %v in %v", a, err, b, w)
	}
}
