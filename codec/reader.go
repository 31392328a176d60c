package codec

import (
	"strings"

	"licit/api"
)

// Reader reads values from a string. With an error there is no rest.
type Reader struct {
	rest string
	err  api.Errno
}

// NewReader returns a reader that has read nothing of a string.
func NewReader(data string) *Reader { return &Reader{rest: data} }

// Number reads a number between two bounds: ErrRange, if it is outside.
func (r *Reader) Number(low, high int) int {
	n := r.digits(api.MaxNumber, ';')
	if r.err == api.OK && (n < low || n > high) {
		r.fail(api.ErrRange)
		return 0
	}
	return n
}

// Text reads a string of bounded length: ErrTooLarge, if it is longer.
func (r *Reader) Text(most int) string {
	n := r.digits(api.MaxData, ':')
	switch {
	case r.err != api.OK:
		return ""
	case len(r.rest) <= n:
		r.fail(api.ErrShort)
		return ""
	case r.rest[n] != ',':
		r.fail(api.ErrCorrupt)
		return ""
	case n > most:
		r.fail(api.ErrTooLarge)
		return ""
	}
	// a clone, so that a short text does not keep all that was read from in memory
	s := strings.Clone(r.rest[:n])
	r.rest = r.rest[n+1:]
	return s
}

// Numbers reads a list of numbers between two bounds.
func (r *Reader) Numbers(low, high int) []int {
	return elements(r, func() int { return r.Number(low, high) })
}

// Texts reads a list of strings of bounded length.
func (r *Reader) Texts(most int) []string {
	return elements(r, func() string { return r.Text(most) })
}

// elements reads a list, given a function that reads its next element.
func elements[T any](r *Reader, next func() T) []T {
	var l []T
	for range r.Number(0, api.MaxList) {
		l = append(l, next())
		if r.err != api.OK {
			return nil
		}
	}
	return l
}

// Left returns the length of the rest.
func (r *Reader) Left() int { return len(r.rest) }

// Err returns the first error, or OK.
func (r *Reader) Err() api.Errno { return r.err }

// Close returns the first error; or ErrCorrupt, if there is a rest.
func (r *Reader) Close() api.Errno {
	if r.rest != "" {
		return api.ErrCorrupt
	}
	return r.err
}

// digits reads a number of at most most, and the byte end behind it. No digit can be added to a larger number, or behind a zero, so that it would become right: such a rest is corrupt, and not short.
func (r *Reader) digits(most int, end byte) int {
	if r.err != api.OK {
		return 0
	}
	n, at := 0, 0
scan:
	for at < len(r.rest) {
		c := r.rest[at]
		digit := int(c) - '0'
		switch {
		case c == end && at > 0:
			r.rest = r.rest[at+1:]
			return n
		case digit < 0 || digit > 9 || at > 0 && n == 0 || 10*n+digit > most:
			break scan
		}
		n = 10*n + digit
		at++
	}
	if at < len(r.rest) {
		r.fail(api.ErrCorrupt)
	} else {
		r.fail(api.ErrShort)
	}
	return 0
}

// fail keeps an error and drops the rest.
func (r *Reader) fail(e api.Errno) { r.rest, r.err = "", e }
