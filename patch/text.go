package patch

import (
	"strconv"
	"strings"

	"licit/api"
	"licit/digest"
	"licit/tree"
)

// baseWord and the others begin the lines of a text that are not added.
const (
	baseWord = "base "
	keepWord = "keep "
	dropWord = "drop "
	addWord  = "add "
)

// Print returns the text of a patch: ErrArg, if it is not valid.
func Print(p api.Patch) (string, api.Errno) {
	// the shape bounds how many lines the text can have, however long the list of hunks is
	if !hasShape(p.Hunks) {
		return "", api.ErrArg
	}
	var lines []string
	if p.Base != "" {
		hex, e := digest.Hex(p.Base)
		if e != api.OK {
			return "", api.ErrArg
		}
		lines = append(lines, baseWord+hex)
	}
	for _, h := range p.Hunks {
		lines = append(lines, wordOf(h.Kind)+strconv.Itoa(h.N))
		lines = append(lines, h.Lines...)
	}
	text, e := tree.Join(lines)
	if e != api.OK {
		return "", api.ErrArg
	}
	return text, api.OK
}

// wordOf returns the word of a kind of hunks.
func wordOf(kind int) string {
	switch kind {
	case api.HunkKeep:
		return keepWord
	case api.HunkDrop:
		return dropWord
	}
	return addWord
}

// isValid says whether a patch is valid.
func isValid(p api.Patch) bool {
	_, e := Print(p)
	return e == api.OK
}

// hasShape says whether each hunk is right beside the one before it, and the numbers of lines are in their bounds.
func hasShape(hunks []api.Hunk) bool {
	before := 0
	for _, h := range hunks {
		if !isHunk(h) || h.Kind == before || h.Kind == api.HunkDrop && before == api.HunkAdd {
			return false
		}
		before = h.Kind
	}
	kept, dropped, added := count(hunks)
	return isNumber(kept+dropped) && isNumber(kept+added)
}

// isHunk says whether a hunk has a kind, and the number of lines that belongs to it.
func isHunk(h api.Hunk) bool {
	switch h.Kind {
	case api.HunkKeep, api.HunkDrop:
		return isNumber(h.N) && len(h.Lines) == 0
	case api.HunkAdd:
		return isNumber(h.N) && len(h.Lines) == h.N
	}
	return false
}

// isNumber says whether a text can have a number of lines.
func isNumber(n int) bool { return n >= 1 && n <= api.MaxLines }

// count returns how many lines hunks keep, drop and add.
func count(hunks []api.Hunk) (kept, dropped, added int) {
	for _, h := range hunks {
		switch h.Kind {
		case api.HunkKeep:
			kept += h.N
		case api.HunkDrop:
			dropped += h.N
		case api.HunkAdd:
			added += h.N
		}
	}
	return kept, dropped, added
}

// Parse returns the patch with a text: ErrTooLarge, if the string is not a text; ErrSyntax, if it is not that of a valid patch.
func Parse(text string) (api.Patch, api.Errno) {
	lines, e := tree.Lines(text)
	if e != api.OK {
		return api.Patch{}, e
	}
	var p api.Patch
	if hex, found := strings.CutPrefix(lines[0], baseWord); found {
		if p.Base, e = digest.Parse(hex); e != api.OK {
			return api.Patch{}, api.ErrSyntax
		}
		lines = lines[1:]
	}
	for len(lines) > 0 {
		h, known := parseHead(lines[0])
		lines = lines[1:]
		if !known || h.Kind == api.HunkAdd && h.N > len(lines) {
			return api.Patch{}, api.ErrSyntax
		}
		if h.Kind == api.HunkAdd {
			h.Lines = append(h.Lines, lines[:h.N]...)
			lines = lines[h.N:]
		}
		p.Hunks = append(p.Hunks, h)
	}
	if !isValid(p) {
		return api.Patch{}, api.ErrSyntax
	}
	return p, api.OK
}

// parseHead returns the hunk of a head line, without its lines, and whether it is one.
func parseHead(line string) (api.Hunk, bool) {
	for _, kind := range [...]int{api.HunkKeep, api.HunkDrop, api.HunkAdd} {
		digits, found := strings.CutPrefix(line, wordOf(kind))
		if !found {
			continue
		}
		n, err := strconv.Atoi(digits)
		// printing the number again rejects signs and leading zeros
		return api.Hunk{Kind: kind, N: n}, err == nil && n > 0 && strconv.Itoa(n) == digits
	}
	return api.Hunk{}, false
}
