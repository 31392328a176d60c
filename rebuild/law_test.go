package rebuild

import (
	"fmt"
	"math/rand"
	"slices"
	"strings"
	"testing"

	"licit/api"
	"licit/build"
	"licit/influence"
	"licit/lineset"
	"licit/sample"
	"licit/tree"
)

// sourceLines returns all lines of the trees of a distribution, with their texts.
func sourceLines(d api.Distribution) []api.Edit {
	var l []api.Edit
	for _, p := range d {
		for _, f := range p.Tree {
			for n, text := range strings.Split(f.Data, "\n") {
				l = append(l, edit(p.Name+"/"+f.Path, n, text))
			}
		}
	}
	return l
}

// chosen returns up to n edits of those lines that a function permits: often only a digit becomes another one, so that the result can be built.
func chosen(r *rand.Rand, d api.Distribution, n int, permits func(x api.Line) bool) []api.Edit {
	texts := []string{"", "note 0", "?", "2", "out 7", "return 9", "( x", "extern zz", "do 1", "8, 9", "b", "export data zz 0"}
	all := slices.DeleteFunc(sourceLines(d), func(x api.Edit) bool { return !permits(x.At) })
	r.Shuffle(len(all), func(i, j int) { all[i], all[j] = all[j], all[i] })
	var l []api.Edit
	for _, x := range all[:min(len(all), 1+r.Intn(n))] {
		i := strings.IndexAny(x.Text, "0123456789")
		if i >= 0 && r.Intn(4) > 0 {
			x.Text = x.Text[:i] + string([]byte{byte('1' + r.Intn(9))}) + x.Text[i+1:]
		} else if r.Intn(5) > 0 {
			x.Text = texts[r.Intn(len(texts))]
		}
		l = append(l, x)
	}
	return l
}

// renamed returns the edits of those source files that give one of their symbols another name.
func renamed(d api.Distribution, name string) []api.Edit {
	var l []api.Edit
	for _, x := range sourceLines(d) {
		words := strings.Split(x.Text, " ")
		if !strings.HasSuffix(x.At.Path, ".src") || !slices.Contains(words, name) {
			continue
		}
		for i, word := range words {
			if word == name {
				words[i] = "other"
			}
		}
		l = append(l, api.Edit{At: x.At, Text: strings.Join(words, " ")})
	}
	return l
}

// plainEdit replaces lines, one by one.
func plainEdit(d api.Distribution, l []api.Edit) api.Distribution {
	var edited api.Distribution
	for _, p := range d {
		var t api.Tree
		for _, f := range p.Tree {
			lines := strings.Split(f.Data, "\n")
			for _, x := range l {
				if x.At.Path == p.Name+"/"+f.Path {
					lines[x.At.N] = x.Text
				}
			}
			t = append(t, api.File{Path: f.Path, Data: strings.Join(lines, "\n")})
		}
		p.Tree = t
		edited = append(edited, p)
	}
	return edited
}

// installed returns the installed files of a distribution, and whether it can be built.
func installed(d api.Distribution) (map[string]string, bool) {
	b, f := build.Build(d)
	files := map[string]string{}
	for _, path := range b.Installed {
		files[path], _ = tree.Find(b.Files, path)
	}
	return files, f.Error == api.OK
}

// plainChange says whether edits change an output.
func plainChange(d api.Distribution, l []api.Edit, output string) bool {
	before, _ := installed(d)
	after, built := installed(plainEdit(d, l))
	data, found := after[output]
	return built && (!found || data != before[output])
}

// plainReduce reduces edits in full passes.
func plainReduce(d api.Distribution, l []api.Edit, output string) []int {
	var left []int
	for i := range l {
		left = append(left, i)
	}
	for {
		before := len(left)
		for _, i := range slices.Backward(slices.Clone(left)) {
			var fewer []int
			var part []api.Edit
			for _, j := range left {
				if j != i {
					fewer = append(fewer, j)
					part = append(part, l[j])
				}
			}
			if plainChange(d, part, output) {
				left = fewer
			}
		}
		if len(left) == before {
			return left
		}
	}
}

// distributions calls a function with distributions made at random that install something.
func distributions(seed int64, n int, use func(r *rand.Rand, d api.Distribution, outputs []string)) {
	r := rand.New(rand.NewSource(seed))
	m := sample.Maker{Intn: r.Intn}
	for range n {
		d := m.Distribution(1+r.Intn(3), 7)
		if b, _ := build.Build(d); len(b.Installed) > 0 {
			use(r, d, b.Installed)
		}
	}
}

// all permits every line.
func all(api.Line) bool { return true }

// P22.1, P22.5: edited distributions are those of the definition, and the edits between a distribution and the edited one lead there: they are those that put in something else, in order.
func TestEditByDefinition(t *testing.T) {
	distributions(1, 60, func(r *rand.Rand, d api.Distribution, _ []string) {
		l := chosen(r, d, 9, all)
		x, e := Edit(d, l)
		if e != api.OK || !equal(x, plainEdit(d, l)) {
			t.Fatal(l, e)
		}
		var want []api.Edit
		for _, y := range sourceLines(d) {
			i := slices.IndexFunc(l, func(z api.Edit) bool { return z.At == y.At })
			if i >= 0 && l[i].Text != y.Text {
				want = append(want, l[i])
			}
		}
		slices.SortStableFunc(want, func(a, b api.Edit) int { return strings.Compare(a.At.Path, b.At.Path) })
		between, e := Between(d, x)
		if e != api.OK || !slices.Equal(between, want) {
			t.Fatal(between, want, e)
		}
		if y, e := Edit(d, between); e != api.OK || !equal(x, y) {
			t.Fatal(y, e)
		}
		back, _ := Between(x, d)
		if y, e := Edit(x, back); e != api.OK || !equal(d, y) {
			t.Fatal(y, e)
		}
	})
}

// P22.2, P22.3, P22.5: trials and changed files are those of the definitions, influence is sound, and edits that put in what is there change nothing.
func TestTryByDefinition(t *testing.T) {
	kinds := map[string]int{}
	distributions(2, 80, func(r *rand.Rand, d api.Distribution, outputs []string) {
		before, _ := installed(d)
		for range 5 {
			output := outputs[r.Intn(len(outputs))]
			i, _ := influence.Of(d, output)
			lines, _ := influence.Lines(i)
			within := r.Intn(2) == 0
			l := chosen(r, d, 3, func(x api.Line) bool { return lineset.Has(lines, x) == within })
			after, built := installed(plainEdit(d, l))
			var changed []string
			for _, path := range outputs {
				if data, found := after[path]; !found || data != before[path] {
					changed = append(changed, path)
				}
			}
			same := built && !slices.Contains(changed, output)
			expectTry(t, d, output, built, same, l...)
			paths, e := Changed(d, l)
			if (e == api.OK) != built || built && !slices.Equal(paths, changed) || !built && paths != nil {
				t.Fatal(l, paths, changed, e)
			}
			if sound, e := Sound(d, l, output); !sound || e != api.OK {
				t.Fatal(output, l, e)
			}
			kinds[fmt.Sprint(within, built, same)]++
			if built && len(changed) > 1 {
				kinds["several"]++
			}
		}
		var none []api.Edit
		for _, x := range sourceLines(d) {
			if r.Intn(3) == 0 {
				none = append(none, x)
			}
		}
		expectTry(t, d, outputs[0], true, true, none...)
		if paths, e := Changed(d, none); e != api.OK || len(paths) > 0 {
			t.Fatal(paths, e)
		}
		if left, e := Blame(d, none, outputs[0]); e != api.ErrState || left != nil {
			t.Fatal(left, e)
		}
	})
	for _, kind := range []string{"true false false", "true true false", "true true true", "false false false", "false true true", "several"} {
		if kinds[kind] < 5 {
			t.Error(kind, kinds[kind])
		}
	}
	if kinds["false true false"] > 0 {
		t.Error("not sound")
	}
}

// P22.4, P22.5: the edits that are left are those of the definition: they change the output, but no longer if any one of them is left out.
func TestBlameByDefinition(t *testing.T) {
	sizes := map[int]int{}
	distributions(3, 120, func(r *rand.Rand, d api.Distribution, outputs []string) {
		for range 6 {
			output := outputs[r.Intn(len(outputs))]
			i, _ := influence.Of(d, output)
			lines, _ := influence.Lines(i)
			l := chosen(r, d, 5, func(x api.Line) bool {
				return !strings.HasSuffix(x.Path, "/recipe") && (lineset.Has(lines, x) || r.Intn(4) == 0)
			})
			if r.Intn(3) == 0 {
				l = renamed(d, []string{"f", "g", "help"}[r.Intn(3)])
			}
			left, e := Blame(d, l, output)
			if !plainChange(d, l, output) {
				if e != api.ErrState || left != nil {
					t.Fatal(output, l, left, e)
				}
				continue
			}
			want := plainReduce(d, l, output)
			if e != api.OK || !slices.Equal(left, want) {
				t.Fatal(output, l, left, want, e)
			}
			sizes[len(left)]++
			var blamed []api.Edit
			for _, i := range left {
				blamed = append(blamed, l[i])
			}
			expectTry(t, d, output, true, false, blamed...)
			for i := range blamed {
				x, e := Try(d, slices.Delete(slices.Clone(blamed), i, i+1), output)
				if e != api.OK || x.Built && !x.Same {
					t.Fatal(output, blamed, i)
				}
			}
		}
	})
	if sizes[1] < 20 || len(sizes) < 3 {
		t.Error(sizes)
	}
}

// P22.4: numbers are left out from the last one to the first one, again and again, whatever leads to a change.
func TestReduce(t *testing.T) {
	r := rand.New(rand.NewSource(4))
	passes := 0
	for range 3000 {
		n := 1 + r.Intn(5)
		changing := map[string]bool{}
		changes := func(l []int) bool {
			key := fmt.Sprint(l)
			if _, known := changing[key]; !known {
				changing[key] = r.Intn(2) == 0 && len(l) > 0
			}
			return changing[key]
		}
		var want []int
		for i := range n {
			want = append(want, i)
		}
		for pass := 0; ; pass++ {
			before := len(want)
			for _, i := range slices.Backward(slices.Clone(want)) {
				fewer := slices.DeleteFunc(slices.Clone(want), func(j int) bool { return i == j })
				if changes(fewer) {
					want = fewer
				}
			}
			if len(want) == before {
				break
			}
			if pass > 0 {
				passes++
			}
		}
		if left := reduce(n, changes); !slices.Equal(left, want) {
			t.Fatal(left, want, changing)
		}
	}
	if passes < 50 {
		t.Error(passes)
	}
}
