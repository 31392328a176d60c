package winnow

import (
	"math/rand"
	"slices"
	"testing"

	"licit/api"
	"licit/normalize"
	"licit/rolling"
	"licit/sample"
)

// someNumbers returns numbers at random, of which many are equal.
func someNumbers(r *rand.Rand, most int) []int {
	var l []int
	bound := 1 + r.Intn(most)
	for range r.Intn(most + 1) {
		l = append(l, r.Intn(bound)-bound/2)
	}
	return l
}

// checkSelect compares the selected positions of a list, and what each part of it selects as one window, with the definition.
func checkSelect(t *testing.T, l []int) {
	for w := 1; w <= len(l)+2; w++ {
		if got, e := Select(l, w); e != api.OK || !slices.Equal(got, plainSelect(l, w)) {
			t.Fatal(l, w, got, e)
		}
	}
	for from := range l {
		for to := from + 1; to <= len(l); to++ {
			if at, e := Least(l, from, to); e != api.OK || at != plainLeast(l, from, to) {
				t.Fatal(l, from, to, at, e)
			}
		}
	}
}

// P25.1: all short lists of a few numbers, and random ones, are selected as the definition says.
func TestSelectByDefinition(t *testing.T) {
	var grow func(l []int, left int)
	grow = func(l []int, left int) {
		checkSelect(t, l)
		if left > 0 {
			for n := range 3 {
				grow(append(slices.Clone(l), n-1), left-1)
			}
		}
	}
	grow(nil, 7)
	r := rand.New(rand.NewSource(1))
	for range 300 {
		checkSelect(t, someNumbers(r, 40))
	}
	for range 20 {
		l := someNumbers(r, 3000)
		for _, w := range []int{1, 5, 100, 1024} {
			if got, e := Select(l, w); e != api.OK || !slices.Equal(got, plainSelect(l, w)) {
				t.Fatal(len(l), w, len(got), e)
			}
		}
	}
}

// P25.4: each window contains a selected position, so two that follow one another are at most w apart; what a window selects is what Least says.
func TestWindows(t *testing.T) {
	r := rand.New(rand.NewSource(2))
	for range 500 {
		l := someNumbers(r, 60)
		for w := 1; w <= len(l); w++ {
			selected, _ := Select(l, w)
			for from := 0; from+w <= len(l); from++ {
				at, _ := Least(l, from, from+w)
				if !slices.Contains(selected, at) || at < from || at >= from+w {
					t.Fatal(l, w, from, at, selected)
				}
			}
			for i := range len(selected) - 1 {
				if d := selected[i+1] - selected[i]; d < 1 || d > w {
					t.Fatal(l, w, selected)
				}
			}
			if selected[0] >= w || selected[len(selected)-1] < len(l)-w {
				t.Fatal(l, w, selected)
			}
		}
	}
}

// P25.4: what a window selects depends on its numbers alone, whatever stands around it.
func TestSurroundings(t *testing.T) {
	r := rand.New(rand.NewSource(3))
	for range 2000 {
		window := append(someNumbers(r, 10), r.Intn(9))
		alone, e := Select(window, len(window))
		front, behind := someNumbers(r, 20), someNumbers(r, 20)
		all, f := Select(slices.Concat(front, window, behind), len(window))
		if e != api.OK || f != api.OK || len(alone) != 1 || !slices.Contains(all, len(front)+alone[0]) {
			t.Fatal(front, window, behind, alone, all)
		}
	}
}

// P25.2: the fingerprints of random texts are the selected hashes of their runs, and do not depend on lines and paths.
func TestPrintsByDefinition(t *testing.T) {
	r := rand.New(rand.NewSource(4))
	for range 500 {
		x := sample.Maker{Intn: r.Intn}.Text("x", 40)
		moved := api.Text{Path: "other/path", Words: slices.Clone(x.Words)}
		for i := range moved.Words {
			moved.Words[i].Line = i
		}
		k, w := 1+r.Intn(6), 1+r.Intn(8)
		var hashes []int
		for i := 0; i+k <= len(x.Words); i++ {
			hashes = append(hashes, rolling.Hash(x.Words[i:i+k]))
		}
		var want []api.Print
		for _, at := range plainSelect(hashes, w) {
			want = append(want, api.Print{Hash: hashes[at], At: at})
		}
		for _, y := range []api.Text{x, moved} {
			if l, e := Prints(y, k, w); e != api.OK || !slices.Equal(l, want) {
				t.Fatal(x, k, w, l, e)
			}
		}
	}
}

// somePrints returns fingerprints in order, of which many have equal hashes.
func somePrints(r *rand.Rand) []api.Print {
	var l []api.Print
	at := r.Intn(5) - 2
	for range r.Intn(12) {
		l = append(l, api.Print{Hash: r.Intn(5), At: at})
		at += 1 + r.Intn(3)
	}
	return l
}

// P25.3: shared pairs of random fingerprints are those of the definition, in their order.
func TestSharedByDefinition(t *testing.T) {
	r := rand.New(rand.NewSource(5))
	for range 3000 {
		a, b := somePrints(r), somePrints(r)
		l, e := Shared(a, b)
		if e != api.OK || !slices.Equal(l, plainShared(a, b)) {
			t.Fatal(a, b, l, e)
		}
		if !slices.IsSortedFunc(l, func(x, y [2]int) int { return slices.Compare(x[:], y[:]) }) {
			t.Fatal(a, b, l)
		}
	}
}

// P25.4: two texts with equal runs of at least k + w - 1 words share a fingerprint at corresponding places of these runs.
func TestEqualRuns(t *testing.T) {
	r := rand.New(rand.NewSource(6))
	found := 0
	for range 600 {
		m := sample.Maker{Intn: r.Intn}
		a, b := m.Text("a", 40), m.Text("b", 40)
		k, w := 1+r.Intn(4), 1+r.Intn(4)
		n, e := Guarantee(k, w)
		p, f := Prints(a, k, w)
		q, g := Prints(b, k, w)
		shared, h := Shared(p, q)
		if e != api.OK || f != api.OK || g != api.OK || h != api.OK {
			t.Fatal(e, f, g, h)
		}
		for i := range a.Words {
			for j := range b.Words {
				if normalize.Common(a, i, b, j) < n {
					continue
				}
				found++
				inRun := func(x [2]int) bool { return x[0]-i == x[1]-j && i <= x[0] && x[0]+k <= i+n }
				if !slices.ContainsFunc(shared, inRun) {
					t.Fatal(a, b, k, w, i, j, shared)
				}
			}
		}
	}
	if found < 1000 {
		t.Error(found)
	}
}

// P25.1 to P25.3: arguments are not changed, and results share no memory.
func TestMemory(t *testing.T) {
	l := []int{5, 3, 4, 3}
	got, _ := Select(l, 2)
	same, _ := Select(l, 2)
	clear(got)
	if !slices.Equal(l, []int{5, 3, 4, 3}) || !slices.Equal(same, []int{1, 3}) {
		t.Error(l, same)
	}
	x := sample.Text("x", "0 a b", "1 a")
	a, _ := Prints(x, 1, 1)
	b, _ := Prints(x, 1, 1)
	clear(a)
	if !slices.Equal(x.Words, sample.Text("x", "0 a b", "1 a").Words) || !slices.Equal(b, prints(99, 100, 99)) {
		t.Error(x, b)
	}
	b = prints(1, 2, 1)
	pairs, _ := Shared(b, b)
	clear(pairs)
	if !slices.Equal(b, prints(1, 2, 1)) {
		t.Error(b)
	}
}
