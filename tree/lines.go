package tree

import (
	"strings"

	"licit/api"
)

// Lines returns the lines of a text: ErrTooLarge, if the string is not a text.
func Lines(data string) ([]string, api.Errno) {
	if len(data) > api.MaxData || strings.Count(data, "\n") >= api.MaxLines {
		return nil, api.ErrTooLarge
	}
	return strings.Split(data, "\n"), api.OK
}

// Join returns the text with some lines: ErrArg, if there is none, or one contains a line feed; ErrTooLarge, if it would not be a text.
func Join(lines []string) (string, api.Errno) {
	if len(lines) == 0 {
		return "", api.ErrArg
	}
	size := len(lines) - 1
	for _, line := range lines {
		if strings.Contains(line, "\n") {
			return "", api.ErrArg
		}
		size += len(line)
	}
	if size > api.MaxData || len(lines) > api.MaxLines {
		return "", api.ErrTooLarge
	}
	return strings.Join(lines, "\n"), api.OK
}

// Replace replaces a line: ErrArg, if the tree is not one; ErrNotFound, ErrTooLarge or ErrRange, if it does not have the file, if the file is not a text, or has no such line; ErrArg or ErrTooLarge, if the new line contains a line feed, or the file would be too long.
func Replace(t api.Tree, l api.Line, text string) (api.Tree, api.Errno) {
	if Check(t) != api.OK {
		return nil, api.ErrArg
	}
	data, found := Find(t, l.Path)
	if !found {
		return nil, api.ErrNotFound
	}
	lines, e := Lines(data)
	if e != api.OK {
		return nil, e
	}
	if l.N < 0 || l.N >= len(lines) {
		return nil, api.ErrRange
	}
	// of the errors of Join only those about the new line are left
	lines[l.N] = text
	if data, e = Join(lines); e != api.OK {
		return nil, e
	}
	return walk(t, func(f api.File) (api.File, bool) {
		if f.Path == l.Path {
			f.Data = data
		}
		return f, true
	}), api.OK
}
