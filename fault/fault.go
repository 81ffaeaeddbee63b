// Package fault is layer 1: errors with status codes (see shared/doc/01-fault.md).
package fault

import (
	"errors"

	"doorkeeper/api"
)

// longest is more than the levels of nesting that the document permits: a chain that goes on for longer may have no end.
const longest = 1 << 20

// wrapped is an error that tells the part it comes from. It is used by pointer, since comparing two structs would compare the errors in them, and that panics for some types.
type wrapped struct {
	part string
	err  error
}

func (w *wrapped) Error() string { return w.part + ": " + w.err.Error() }

func (w *wrapped) Unwrap() error { return w.err }

// New returns an error with a status and an offset.
func New(s api.Status, at int) error { return api.Fault{Status: s, At: at} }

// In wraps an error with the name of the part that it comes from; nil stays nil.
func In(part string, err error) error {
	if err == nil {
		return nil
	}
	return &wrapped{part, err}
}

// Status returns the status of an error, and whether it has one.
func Status(err error) (api.Status, bool) {
	return find[api.Status](err)
}

// At returns the offset of an error, and whether it has one.
func At(err error) (int, bool) {
	f, ok := find[api.Fault](err)
	return f.At, ok
}

// Move returns a fault with the status of an error and an offset that is greater by a number; or the error itself, if it has no offset.
func Move(err error, by int) error {
	f, ok := find[api.Fault](err)
	if !ok {
		return err
	}
	return New(f.Status, f.At+by)
}

// find returns the first error of a type in a chain. Methods of other types may panic, and then nothing is found.
func find[T error](err error) (found T, ok bool) {
	var none T
	defer func() {
		if recover() != nil {
			found, ok = none, false
		}
	}()
	for ends(err) && errors.As(err, &found) {
		// An As method can make up an error that is not in the chain. Then the search goes on behind it.
		if errors.Is(err, found) {
			return found, true
		}
		err = errors.Unwrap(err)
	}
	return none, false
}

// ends reports whether a chain has an end: errors.As and errors.Is would follow it forever otherwise.
func ends(err error) bool {
	for range longest {
		if err == nil {
			return true
		}
		err = errors.Unwrap(err)
	}
	return false
}

// Reason returns the reason of a status, and an empty string for a status that the document does not list.
func Reason(s api.Status) string {
	switch s {
	case api.OK:
		return "OK"
	case api.Moved:
		return "Moved Permanently"
	case api.BadRequest:
		return "Bad Request"
	case api.Unauthorized:
		return "Unauthorized"
	case api.NotFound:
		return "Not Found"
	case api.MethodNotAllowed:
		return "Method Not Allowed"
	case api.ContentTooLarge:
		return "Content Too Large"
	case api.URITooLong:
		return "URI Too Long"
	case api.FieldsTooLarge:
		return "Request Header Fields Too Large"
	case api.NotImplemented:
		return "Not Implemented"
	case api.VersionNotSupport:
		return "HTTP Version Not Supported"
	}
	return ""
}

// Final reports whether a connection is closed after a status: where a request is malformed, over a limit or not supported, the next one may begin anywhere.
func Final(s api.Status) bool {
	switch s {
	case api.BadRequest:
		fallthrough
	case api.ContentTooLarge, api.URITooLong, api.FieldsTooLarge:
		fallthrough
	case api.NotImplemented, api.VersionNotSupport:
		return true
	}
	return false
}
