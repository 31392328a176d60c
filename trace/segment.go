package trace

import (
	"cmp"
	"strings"

	"licit/api"
	"licit/binary"
	"licit/object"
)

// whole returns the segment of a file, or of a member of an archive, that stands for it as a whole.
func whole(path, member string) api.Segment {
	return api.Segment{Path: path, Member: member, Kind: api.SegmentFile}
}

// line returns the segment of a line.
func line(path string, n int) api.Segment {
	return api.Segment{Path: path, Kind: api.SegmentLine, Index: n}
}

// section returns the segment of a section.
func section(path, member string, n int) api.Segment {
	return api.Segment{Path: path, Member: member, Kind: api.SegmentSection, Index: n}
}

// list returns the segment of the export list of a library.
func list(path string) api.Segment { return api.Segment{Path: path, Kind: api.SegmentList} }

// Compare compares segments by path, member, kind and index.
func Compare(a, b api.Segment) int {
	return cmp.Or(
		strings.Compare(a.Path, b.Path),
		strings.Compare(a.Member, b.Member),
		cmp.Compare(a.Kind, b.Kind),
		cmp.Compare(a.Index, b.Index),
	)
}

// Segments returns the segments of the artifact at a path, in order; nothing, if there is no file.
func (t *Trace) Segments(path string) []api.Segment {
	switch t.kinds[path] {
	case api.ArtifactText:
		return t.lineSegments(path)
	case api.ArtifactObject:
		o, _ := object.Decode(t.data(path))
		return objectSegments(path, "", o)
	case api.ArtifactArchive:
		var l []api.Segment
		members, _ := object.Unpack(t.data(path))
		for _, m := range members {
			l = append(l, objectSegments(path, m.Name, m.Object)...)
		}
		return l
	case api.ArtifactLibrary:
		return t.placeSegments(path, whole(path, ""), list(path))
	case api.ArtifactBinary:
		return t.placeSegments(path, whole(path, ""))
	}
	return nil
}

// lineSegments returns the segments of a text.
func (t *Trace) lineSegments(path string) []api.Segment {
	l := []api.Segment{whole(path, "")}
	for n := range lines(t.data(path)) {
		l = append(l, line(path, n))
	}
	return l
}

// objectSegments returns the segments of an object, or of a member of an archive.
func objectSegments(path, member string, o api.Object) []api.Segment {
	l := []api.Segment{whole(path, member)}
	for n := range len(o.Sections) {
		l = append(l, section(path, member, n))
	}
	return l
}

// placeSegments returns some segments of a library or a binary, and behind them those of its sections.
func (t *Trace) placeSegments(path string, l ...api.Segment) []api.Segment {
	for n := range len(t.Places(path)) {
		l = append(l, section(path, "", n))
	}
	return l
}

// Places returns the places of the library or the binary at a path; nothing, if there is none.
func (t *Trace) Places(path string) []api.Placed {
	switch t.kinds[path] {
	case api.ArtifactLibrary, api.ArtifactBinary:
		b, _ := binary.Decode(t.data(path))
		return b.Places
	}
	return nil
}

// lineOf returns what the read of a line takes from a file.
func (t *Trace) lineOf(path string, n int) []api.Segment {
	return t.take(path, api.ArtifactText, line(path, n), whole(path, ""))
}

// endOf returns what the read of the end of a text takes from a file.
func (t *Trace) endOf(path string) []api.Segment {
	return t.take(path, api.ArtifactText, whole(path, ""))
}

// headsOf returns what the read of the heads of an object, or of a member of an archive, takes from a file.
func (t *Trace) headsOf(p part) []api.Segment {
	return t.take(p.path, p.expected(), whole(p.path, p.member))
}

// sectionOf returns what the read of a section of an object, or of a member of an archive, takes from a file.
func (t *Trace) sectionOf(p part, n int) []api.Segment {
	return t.take(p.path, p.expected(), section(p.path, p.member, n))
}

// listOf returns what the read of an export list takes from a file.
func (t *Trace) listOf(path string) []api.Segment {
	return t.take(path, api.ArtifactLibrary, list(path))
}

// take returns some segments of an artifact of the kind that a read expects, and all segments of any other one: such bytes were not made part by part.
func (t *Trace) take(path string, kind int, l ...api.Segment) []api.Segment {
	if t.kinds[path] == kind {
		return l
	}
	return t.Segments(path)
}

// part is an object that is read: a file, or a member of the archive at its path.
type part struct {
	path, member string
	object       api.Object
}

// expected returns the kind of the artifact at the path of an object.
func (p part) expected() int {
	if p.member != "" {
		return api.ArtifactArchive
	}
	return api.ArtifactObject
}
