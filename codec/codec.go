// Package codec is layer 2: see shared/doc/02-codec.md.
package codec

import (
	"strconv"
	"strings"

	"licit/api"
)

// Number returns the bytes of a number: ErrRange, if it is not from 0 to MaxNumber.
func Number(n int) (string, api.Errno) {
	if n < 0 || n > api.MaxNumber {
		return "", api.ErrRange
	}
	return strconv.Itoa(n) + ";", api.OK
}

// Text returns the bytes of a string: ErrTooLarge, if it has more than MaxData bytes.
func Text(s string) (string, api.Errno) {
	if len(s) > api.MaxData {
		return "", api.ErrTooLarge
	}
	return strconv.Itoa(len(s)) + ":" + s + ",", api.OK
}

// Numbers returns the bytes of a list of numbers: ErrTooLarge, if there are more than MaxList; ErrRange, if one is not from 0 to MaxNumber.
func Numbers(l []int) (string, api.Errno) { return list(l, Number) }

// Texts returns the bytes of a list of strings: ErrTooLarge, if there are more than MaxList, or one has more than MaxData bytes.
func Texts(l []string) (string, api.Errno) { return list(l, Text) }

// list returns the bytes of a list, given a function for those of an element.
func list[T any](l []T, element func(T) (string, api.Errno)) (string, api.Errno) {
	if len(l) > api.MaxList {
		return "", api.ErrTooLarge
	}
	var all strings.Builder
	all.WriteString(strconv.Itoa(len(l)) + ";")
	for _, x := range l {
		s, e := element(x)
		if e != api.OK {
			return "", e
		}
		all.WriteString(s)
	}
	return all.String(), api.OK
}
