package record

import (
	"fmt"
	"maps"
	"math/rand"
	"regexp"
	"slices"
	"strconv"
	"strings"
	"testing"

	"licit/api"
	"licit/build"
	"licit/digest"
	"licit/tree"
)

// plainCheck checks a record by the plain words of the definition.
func plainCheck(r api.Record) api.Errno {
	if len(r) > api.MaxList {
		return api.ErrTooLarge
	}
	for i, s := range r {
		if s.Package < 0 || s.Package > 15 || s.Line < 0 || s.Line > 1023 || s.Kind < 1 || s.Kind > 8 {
			return api.ErrRange
		}
		if i > 0 && (s.Package < r[i-1].Package || s.Package == r[i-1].Package && s.Line <= r[i-1].Line) {
			return api.ErrOrder
		}
		if len(s.Reads) == 0 || len(s.Reads) > api.MaxList {
			return api.ErrArg
		}
		var earlier []api.Touch
		for _, x := range r[:i] {
			earlier = append(append(earlier, x.Reads...), x.Wrote)
		}
		for j, f := range append(slices.Clone(s.Reads), s.Wrote) {
			writes := j == len(s.Reads)
			same := func(g api.Touch) bool { return g.Path == f.Path }
			switch {
			case tree.Path(f.Path) != api.OK:
				return api.ErrName
			case len(f.Digest) != 32:
				return api.ErrCorrupt
			case slices.ContainsFunc(s.Reads[:j], same), writes && slices.ContainsFunc(earlier, same):
				return api.ErrTwice
			case slices.ContainsFunc(earlier, func(g api.Touch) bool { return same(g) && g.Digest != f.Digest }):
				return api.ErrMismatch
			}
		}
	}
	return api.OK
}

// grow adds steps to a set of them, until a function adds none any more, and returns them in order.
func grow(r api.Record, set map[int]bool, isNext func(i int, set map[int]bool) bool) []int {
	for n := -1; n < len(set); {
		n = len(set)
		for i := range r {
			if isNext(i, set) {
				set[i] = true
			}
		}
	}
	return slices.Sorted(maps.Keys(set))
}

// reads says whether a step has read a path.
func reads(s api.Done, path string) bool {
	return slices.ContainsFunc(s.Reads, func(f api.Touch) bool { return f.Path == path })
}

// plainNeeded returns the steps that are needed for a path of a valid record.
func plainNeeded(r api.Record, path string) []int {
	return grow(r, map[int]bool{}, func(i int, set map[int]bool) bool {
		if r[i].Wrote.Path == path {
			return true
		}
		for n := range set {
			if reads(r[n], r[i].Wrote.Path) {
				return true
			}
		}
		return false
	})
}

// plainAffected returns the steps of a valid record that some paths affect.
func plainAffected(r api.Record, paths []string) []int {
	return grow(r, map[int]bool{}, func(i int, set map[int]bool) bool {
		for n := range set {
			if reads(r[i], r[n].Wrote.Path) {
				return true
			}
		}
		return slices.ContainsFunc(paths, func(p string) bool { return reads(r[i], p) })
	})
}

// isWritten says whether a step writes a path.
func isWritten(r api.Record, path string) bool {
	return slices.ContainsFunc(r, func(s api.Done) bool { return s.Wrote.Path == path })
}

// plainSources returns the sources that are needed for a path of a valid record.
func plainSources(r api.Record, path string) []string {
	set := map[string]bool{}
	for _, i := range plainNeeded(r, path) {
		for _, f := range r[i].Reads {
			if !isWritten(r, f.Path) {
				set[f.Path] = true
			}
		}
	}
	return slices.Sorted(maps.Keys(set))
}

// someRecord returns a valid record at random.
func someRecord(rnd *rand.Rand) api.Record {
	var r api.Record
	names := []string{"a/s0", "a/s1", "b/s2", "b/s3", "c"}
	place, line := 0, -1
	for i := range rnd.Intn(9) {
		if rnd.Intn(4) == 0 {
			place, line = place+1+rnd.Intn(2)*rnd.Intn(4)/3, -1
		}
		line += 1 + rnd.Intn(3)
		s := api.Done{Package: min(place, api.MaxPackages-1), Line: line, Kind: 1 + rnd.Intn(8)}
		for _, n := range rnd.Perm(len(names))[:1+rnd.Intn(3)] {
			s.Reads = append(s.Reads, file(names[n]))
		}
		s.Wrote = file("w/" + strconv.Itoa(i))
		r = append(r, s)
		names = append(names, s.Wrote.Path)
	}
	return r
}

// somePaths returns all paths of a record, and some others.
func somePaths(r api.Record) []string {
	paths := []string{"", "a", "a/s0", "a/s1", "b/s2", "none"}
	for _, s := range r {
		for _, f := range append(slices.Clone(s.Reads), s.Wrote) {
			paths = append(paths, f.Path)
		}
	}
	slices.Sort(paths)
	return slices.Compact(paths)
}

// damage changes something of a record.
func damage(rnd *rand.Rand, r api.Record) {
	s := &r[rnd.Intn(len(r))]
	pick := func(l ...string) string { return l[rnd.Intn(len(l))] }
	f := &s.Wrote
	if n := rnd.Intn(len(s.Reads) + 1); n < len(s.Reads) {
		f = &s.Reads[n]
	}
	switch rnd.Intn(7) {
	case 0:
		s.Package += rnd.Intn(5) - 2
	case 1:
		s.Line += []int{-2, -1, 1, 2, 1024}[rnd.Intn(5)]
	case 2:
		s.Kind += rnd.Intn(9) - 4
	case 3:
		f.Path = pick("", "A", "a/s0", "a/s1", "b/s2", "w/0", "w/1", "w/2", "w/3")
	case 4:
		f.Digest = pick("", f.Digest[:min(31, len(f.Digest))], f.Digest+"0", digest.Sum("other"), digest.Sum("a/s0"), digest.Sum("w/1"))
	case 5:
		s.Reads = append(s.Reads, file(pick("a/s0", "b/s2", "w/0", "w/1", "w/2", "w/3")))
	default:
		s.Reads = s.Reads[:rnd.Intn(len(s.Reads)+1)]
		s.Reads = append(s.Reads, files("a/s0")[:rnd.Intn(2)]...)
	}
	if len(s.Reads) == 0 && rnd.Intn(3) > 0 {
		s.Reads = files("c")
	}
}

// P17.1 to P17.6: everything is by the definition, for records with faults and without.
func TestByDefinition(t *testing.T) {
	rnd := rand.New(rand.NewSource(1))
	found := map[api.Errno]int{}
	for range 15000 {
		r := someRecord(rnd)
		for range rnd.Intn(4) {
			if len(r) > 0 {
				damage(rnd, r)
			}
		}
		before := copyOf(r)
		want := plainCheck(r)
		found[want]++
		if e := Check(r); e != want {
			t.Fatal(r, e, want)
		}
		for _, p := range somePaths(r) {
			writer, need, source, affected := -1, []int(nil), []string(nil), []int(nil)
			if want == api.OK {
				writer = slices.IndexFunc(r, func(s api.Done) bool { return s.Wrote.Path == p })
				need, source, affected = plainNeeded(r, p), plainSources(r, p), plainAffected(r, []string{p, "a/s1"})
			}
			if w, l, s, a := Writer(r, p), Needed(r, p), Sources(r, p), Affected(r, []string{p, "a/s1"}); w != writer || !slices.Equal(l, need) || !slices.Equal(s, source) || !slices.Equal(a, affected) {
				t.Fatal(r, p, w, l, s, a)
			}
		}
		text, e := Print(r)
		if (e == api.OK) != (want == api.OK) || e != api.OK && e != api.ErrArg {
			t.Fatal(r, e)
		}
		if l, n, e := Parse(text); e != api.OK || n != -1 || want == api.OK && !isEqual(l, r) {
			t.Fatal(r, l, n, e)
		}
		if !isEqual(r, before) {
			t.Fatal(r, before)
		}
	}
	for _, e := range []api.Errno{api.OK, api.ErrRange, api.ErrOrder, api.ErrArg, api.ErrName, api.ErrCorrupt, api.ErrTwice, api.ErrMismatch} {
		if found[e] < 50 {
			t.Error(e, found[e])
		}
	}
}

// P17.7: needed steps read only sources and what needed steps write, and a source affects the writer of a path exactly if it is among those needed for it.
func TestConsequences(t *testing.T) {
	rnd := rand.New(rand.NewSource(2))
	for range 3000 {
		r := someRecord(rnd)
		for _, p := range somePaths(r) {
			checkConsequences(t, r, p)
		}
	}
}

// checkConsequences checks what follows for a path of a valid record.
func checkConsequences(t *testing.T, r api.Record, path string) {
	t.Helper()
	need, sources := Needed(r, path), Sources(r, path)
	for _, i := range need {
		for _, f := range r[i].Reads {
			w := Writer(r, f.Path)
			if w < 0 && !slices.Contains(sources, f.Path) || w >= 0 && !slices.Contains(need, w) {
				t.Fatal(r, path, f.Path)
			}
		}
	}
	w := Writer(r, path)
	if (w < 0) != (len(need) == 0) || w >= 0 && need[len(need)-1] != w {
		t.Fatal(r, path, w, need)
	}
	for _, p := range somePaths(r) {
		if isWritten(r, p) || w < 0 {
			continue
		}
		if slices.Contains(Affected(r, []string{p}), w) != slices.Contains(sources, p) {
			t.Fatal(r, path, p)
		}
	}
}

// stepForm and touchForm are what the definition says of the lines of a text.
var (
	stepForm  = regexp.MustCompile(`^step (0|[1-9][0-9]{0,3}) (0|[1-9][0-9]{0,3}) (0|[1-9][0-9]{0,3})\n$`)
	touchForm = regexp.MustCompile(`^(?s:(read|write) ([^ \n]+) ([0-9a-f]{64})\n)$`)
)

// plainParse parses a text by the plain words of the definition.
func plainParse(text string) (api.Record, int, api.Errno) {
	var r api.Record
	lines := strings.SplitAfter(text, "\n")
	if lines[len(lines)-1] == "" {
		lines = lines[:len(lines)-1]
	}
	may := "step"
	for n, line := range lines {
		step, touch := stepForm.FindStringSubmatch(line), touchForm.FindStringSubmatch(line)
		switch {
		case may == "step" && step != nil:
			var s api.Done
			fmt.Sscan(strings.Join(step[1:], " "), &s.Package, &s.Line, &s.Kind)
			r = append(r, s)
			may = "read"
		case touch != nil && strings.Contains(may, touch[1]):
			var f api.Touch
			f.Path = touch[2]
			fmt.Sscanf(touch[3], "%x", &f.Digest)
			s := &r[len(r)-1]
			if touch[1] == "read" {
				s.Reads = append(s.Reads, f)
				may = "read or write"
			} else {
				s.Wrote = f
				may = "step"
			}
		default:
			return nil, n, api.ErrSyntax
		}
	}
	if may != "step" {
		return nil, len(lines), api.ErrShort
	}
	if e := plainCheck(r); e != api.OK {
		return nil, -1, e
	}
	return r, -1, api.OK
}

// edited returns a text with some changes, of bytes and of lines.
func edited(rnd *rand.Rand, text string) string {
	for range rnd.Intn(3) {
		at := rnd.Intn(len(text) + 1)
		end := min(len(text), at+rnd.Intn(3))
		add := []string{"", "", " ", "\n", "0", "1", "9", "-", "a", "f", "F", "A", "g", "/", "s", "\r", "step 0 0 1\n"}[rnd.Intn(17)]
		text = text[:at] + add + text[end:]
	}
	lines := strings.SplitAfter(text, "\n")
	switch i, j := rnd.Intn(len(lines)), rnd.Intn(len(lines)); rnd.Intn(6) {
	case 0:
		lines[i], lines[j] = lines[j], lines[i]
	case 1:
		lines = slices.Insert(lines, i, lines[j])
	case 2:
		lines = slices.Delete(lines, i, i+1)
	case 3:
		lines = lines[:i]
	case 4:
		if strings.HasPrefix(lines[i], "step ") {
			lines[i] = []string{"step 16 0 1\n", "step 0 1024 1\n", "step 0 9 0\n", "step 0 9 9\n", "step 0 0 1\n", "step 15 1023 8\n"}[j%6]
		}
	}
	return strings.Join(lines, "")
}

// P17.6, P17.7: edited texts are parsed as the definition says, and those of records are their texts.
func TestEditedTexts(t *testing.T) {
	rnd := rand.New(rand.NewSource(3))
	found := map[api.Errno]int{}
	for range 15000 {
		text, _ := Print(someRecord(rnd))
		text = edited(rnd, text)
		want, m, f := plainParse(text)
		r, n, e := Parse(text)
		found[e]++
		if e != f || n != m || !isEqual(r, want) {
			t.Fatalf("%q %v %d %v, not %v %d %v", text, r, n, e, want, m, f)
		}
		if e != api.OK {
			continue
		}
		if s, e := Print(r); e != api.OK || s != text {
			t.Fatalf("%q %q %v", text, s, e)
		}
	}
	for _, e := range []api.Errno{api.OK, api.ErrSyntax, api.ErrShort, api.ErrRange, api.ErrOrder, api.ErrName, api.ErrTwice, api.ErrMismatch} {
		if found[e] < 20 {
			t.Error(e, found[e])
		}
	}
}

// P17.7: different records have different texts, and part at some step, in front of which they are equal.
func TestOneToOne(t *testing.T) {
	rnd := rand.New(rand.NewSource(4))
	var records []api.Record
	var texts []string // empty for records that are not valid
	for range 300 {
		r := someRecord(rnd)
		if other := copyOf(r); len(r) > 0 {
			damage(rnd, other)
			records = append(records, other)
		}
		records = append(records, r)
	}
	for _, r := range records {
		text, _ := Print(r)
		texts = append(texts, text)
	}
	for i, a := range records {
		for j, b := range records {
			n := Diverge(a, b)
			if (n < 0) != isEqual(a, b) || n >= 0 && (!isEqual(a[:n], b[:n]) || n < min(len(a), len(b)) && isEqual(a[:n+1], b[:n+1])) {
				t.Fatal(a, b, n)
			}
			if texts[i] != "" && texts[j] != "" && (texts[i] == texts[j]) != (n < 0) {
				t.Fatal(a, b)
			}
		}
	}
}

// distribution returns two packages with steps of all kinds, and some more of them at random.
func distribution(rnd *rand.Rand) api.Distribution {
	lib := []string{"compile u.src to u.o", "archive u.o to u.a", "install u.a as out/u.a", "share u.o to u.so", "install u.so as out/u.so", "install u.src as out/u.src"}
	app := []string{
		"compile cat.src to cat.o", "link main cat.o to cat", "run cat on tmpl to gen.src", "patch main.src with fix to fixed.src", "compile fixed.src to main.o",
		"link main main.o using @lib/out/u.a to main", "link main main.o using @lib/out/u.so to other", "run main on tmpl to result", "run other using @lib/out/u.so on gen.src to second",
		"install result as out/result", "install second as out/second",
	}
	more := func(lines []string, names ...string) string {
		var l []string
		for i, line := range lines {
			l = append(l, line)
			if rnd.Intn(3) == 0 {
				l = append(l, "")
			}
			if rnd.Intn(2) == 0 {
				// what is left out of the names does not exist yet
				l = append(l, "copy "+names[rnd.Intn(len(names))]+" to more/c"+strconv.Itoa(i))
			}
		}
		return strings.Join(l, "\n")
	}
	pack := func(name, recipe string, parts ...string) api.Package {
		t := api.Tree{{Path: "make", Data: recipe}}
		for i := 0; i < len(parts); i += 2 {
			t, _ = tree.Put(t, api.File{Path: parts[i], Data: parts[i+1]})
		}
		return api.Package{Name: name, Version: "1", Recipe: "make", Tree: t}
	}
	return api.Distribution{
		pack("lib", more(lib, "u.src", "make"), "u.src", "export fn util x 1\nreturn x + 1"),
		pack("app", more(app, "main.src", "tmpl", "@lib/out/u.a", "@lib/out/u.src"), "tmpl", "data g 1\n65",
			"cat.src", "export fn main 4\nlet c = in()\nwhile c != 4294967295 2\nout c\nset c = in()",
			"main.src", "include gen.src\ninclude @lib/out/u.src\nexport fn main 1\nout 1", "fix", "keep 1\ndrop 1\nadd 1\nextern util\nkeep 1\ndrop 1\nadd 1\nout util(load(g))"),
	}
}

// P17.7: the records of builds are valid and agree with their files, and two builds do not part.
func TestBuilds(t *testing.T) {
	rnd := rand.New(rand.NewSource(5))
	for range 60 {
		d := distribution(rnd)
		b, f := build.Build(d)
		again, _ := build.Build(d)
		if f.Error != api.OK {
			t.Fatal(f, d)
		}
		if e := Check(b.Record); e != api.OK {
			t.Fatal(e)
		}
		if p, e := Agrees(b.Record, b.Files); p != "" || e != api.OK {
			t.Fatal(p, e)
		}
		if n := Diverge(b.Record, again.Record); n != -1 {
			t.Fatal(n)
		}
		text, e := Print(b.Record)
		if r, n, f := Parse(text); e != api.OK || f != api.OK || n != -1 || !isEqual(r, b.Record) {
			t.Fatal(n, e, f)
		}
		for _, f := range b.Files {
			checkConsequences(t, b.Record, f.Path)
		}
		changeSource(t, rnd, d, b)
	}
}

// changeSource adds a line to a source that was read, and checks that the builds part at the first step that it affects.
func changeSource(t *testing.T, rnd *rand.Rand, d api.Distribution, b api.Built) {
	t.Helper()
	files := d[rnd.Intn(len(d))].Tree
	n := slices.IndexFunc(files, func(f api.File) bool { return f.Path == "tmpl" || f.Path == "u.src" })
	name := "lib/"
	if files[n].Path == "tmpl" {
		name = "app/"
	}
	files[n].Data += "\nunless no 0"
	c, f := build.Build(d)
	if f.Error != api.OK {
		t.Fatal(f)
	}
	affected := Affected(b.Record, []string{name + files[n].Path})
	if n := Diverge(b.Record, c.Record); len(affected) == 0 || n != affected[0] {
		t.Fatal(n, affected)
	}
	if p, e := Agrees(b.Record, c.Files); p != name+files[n].Path || e != api.ErrMismatch {
		t.Fatal(p, e)
	}
}
