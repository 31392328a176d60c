package align

import (
	"math/rand"
	"slices"
	"testing"

	"licit/api"
)

// checkBest compares what is said about two lists with the best alignment.
func checkBest(t *testing.T, a, b []api.Lexeme, c api.Costs, want api.Alignment) {
	t.Helper()
	x, e := Align(a, b, c)
	d, f := Distance(a, b, c)
	if e != api.OK || f != api.OK || !isAlignment(x, want) || d != want.Cost || Check(a, b, c, x) != api.OK {
		t.Fatal(spell(a), "/", spell(b), c, x, e, d, f, want)
	}
	p, e := Potential(a, b, c)
	bound, f := Bound(a, b, c, p)
	if e != api.OK || f != api.OK || bound != want.Cost {
		t.Fatal(spell(a), "/", spell(b), c, p, e, bound, f)
	}
}

// P28.1 to P28.4: all short lists are aligned as the definition says.
func TestByDefinition(t *testing.T) {
	var lists [][]api.Lexeme
	eachList("ab", 4, func(l []api.Lexeme) { lists = append(lists, l) })
	for _, c := range someKinds() {
		for _, a := range lists {
			for _, b := range lists {
				checkBest(t, a, b, c, plainBest(a, b, c))
			}
		}
	}
}

// P28.2: all lists of up to six steps, of which some are none, are checked as the definition says, and also with a cost that is wrong by one.
func TestCheckByDefinition(t *testing.T) {
	c := costs(3, 2, 4)
	for _, x := range [][2]string{{"", ""}, {"a", ""}, {"a", "a"}, {"a", "b"}, {"ab", "a"}, {"ab", "ba"}, {"aab", "aba"}} {
		a, b := letters(x[0]), letters(x[1])
		right := map[string]int{}
		eachAlignment(a, b, c, func(x api.Alignment) { right[key(x.Steps)] = x.Cost })
		var grow func(steps []int)
		grow = func(steps []int) {
			cost, is := right[key(steps)]
			for _, n := range []int{cost - 1, cost, cost + 1} {
				want := api.ErrProof
				if is && n == cost {
					want = api.OK
				}
				if e := Check(a, b, c, api.Alignment{Cost: n, Steps: steps}); e != want {
					t.Fatal(x, steps, n, e)
				}
			}
			for step := range 6 {
				if len(steps) < 6 {
					grow(append(slices.Clone(steps), step))
				}
			}
		}
		grow(nil)
	}
}

// key returns a string that is different for different steps.
func key(steps []int) string {
	var s []byte
	for _, step := range steps {
		s = append(s, byte('0'+step))
	}
	return string(s)
}

// P28.1, P28.2: longer lists at random, with the first one of the best alignments, and what it keeps.
func TestRandomByDefinition(t *testing.T) {
	r := rand.New(rand.NewSource(1))
	for range 1500 {
		a, c := someWords(r, 25), someCosts(r)
		b := someWords(r, 25)
		if r.Intn(2) == 0 {
			b = edited(r, a)
		}
		want := grownBest(a, b, c)
		checkBest(t, a, b, c, want)
		kept := Kept(want)
		count := 0
		for _, step := range want.Steps {
			if step == keep {
				count++
			}
		}
		if len(kept) != count {
			t.Fatal(spell(a), "/", spell(b), want, kept)
		}
		for i, at := range kept {
			if a[at[0]].Text != b[at[1]].Text || i > 0 && (at[0] <= kept[i-1][0] || at[1] <= kept[i-1][1]) {
				t.Fatal(spell(a), "/", spell(b), want, kept)
			}
		}
	}
}

// P28.3: the numbers of the table are the distances of the beginnings.
func TestBeginnings(t *testing.T) {
	r := rand.New(rand.NewSource(2))
	for range 100 {
		a, b, c := someWords(r, 10), someWords(r, 10), someCosts(r)
		p, e := Potential(a, b, c)
		if e != api.OK || len(p) != len(a)+1 {
			t.Fatal(len(p), e)
		}
		for i, row := range p {
			if len(row) != len(b)+1 {
				t.Fatal(i, len(row))
			}
			for j, n := range row {
				d, e := Distance(a[:i], b[:j], c)
				if e != api.OK || d != n || n != grownBest(a[:i], b[:j], c).Cost {
					t.Fatal(spell(a), "/", spell(b), c, i, j, n, d, e)
				}
			}
		}
	}
}

// P28.3, P28.4: potentials at random are accepted, and prove no more than the distance, nor than any alignment costs; with one number that is greater by some, what decides are the conditions.
func TestBounds(t *testing.T) {
	r := rand.New(rand.NewSource(3))
	accepted, refused := 0, 0
	for range 2000 {
		a, b, c := someWords(r, 5), someWords(r, 5), someCosts(r)
		p := somePotential(r, a, b, c, r.Intn(4))
		n, e := Bound(a, b, c, p)
		d, f := Distance(a, b, c)
		if e != api.OK || f != api.OK || n != p[len(a)][len(b)] || n > d {
			t.Fatal(spell(a), "/", spell(b), c, p, n, e, d, f)
		}
		if len(a)+len(b) < 7 {
			eachAlignment(a, b, c, func(x api.Alignment) {
				if x.Cost < n {
					t.Fatal(spell(a), "/", spell(b), c, p, x)
				}
			})
		}
		p[r.Intn(len(p))][r.Intn(len(p[0]))] += r.Intn(3)
		want := api.OK
		for i := range p {
			for j := range p[i] {
				if i+j == 0 && p[i][j] != 0 || i+j > 0 && p[i][j] > slices.Min(limits(a, b, c, p, i, j)) {
					want = api.ErrProof
				}
			}
		}
		if _, e := Bound(a, b, c, p); e != want {
			t.Fatal(spell(a), "/", spell(b), c, p, e, want)
		}
		if want == api.OK {
			accepted++
		} else {
			refused++
		}
	}
	if accepted < 300 || refused < 300 {
		t.Error(accepted, refused)
	}
}

// distance returns that of two lists.
func distance(t *testing.T, a, b []api.Lexeme, c api.Costs) int {
	t.Helper()
	d, e := Distance(a, b, c)
	if e != api.OK {
		t.Fatal(e)
	}
	return d
}

// P28.4: the distance is 0 exactly for equal lists, and the same the other way round; words in front and behind that both have cost nothing.
func TestDistances(t *testing.T) {
	r := rand.New(rand.NewSource(4))
	equal := 0
	for range 3000 {
		a, b, c := someWords(r, 6), someWords(r, 6), someCosts(r)
		d := distance(t, a, b, c)
		if same := spell(a) == spell(b); same != (d == 0) {
			t.Fatal(spell(a), "/", spell(b), c, d)
		} else if same {
			equal++
		}
		if distance(t, b, a, costs(c.Change, c.Add, c.Drop)) != d {
			t.Fatal(spell(a), "/", spell(b), c, d)
		}
		front, behind := someWords(r, 6), someWords(r, 6)
		if distance(t, slices.Concat(front, a, behind), slices.Concat(front, b, behind), c) != d {
			t.Fatal(spell(front), "/", spell(a), "/", spell(b), "/", spell(behind), c, d)
		}
	}
	if equal < 50 {
		t.Error(equal)
	}
}

// P28.4: the triangle inequality, if all steps cost the same.
func TestTriangles(t *testing.T) {
	r := rand.New(rand.NewSource(5))
	for range 3000 {
		x, y, z := someWords(r, 8), someWords(r, 8), someWords(r, 8)
		n := 1 + r.Intn(1000)
		c := costs(n, n, n)
		if distance(t, x, z, c) > distance(t, x, y, c)+distance(t, y, z, c) {
			t.Fatal(spell(x), "/", spell(y), "/", spell(z), n)
		}
	}
}

// P28.1 to P28.3: arguments are not changed, and results share no memory, neither with them nor with each other.
func TestMemory(t *testing.T) {
	a, b, c := letters("abca"), letters("cabb"), costs(3, 2, 2)
	want := grownBest(a, b, c)
	x, _ := Align(a, b, c)
	y, _ := Align(a, b, c)
	p, _ := Potential(a, b, c)
	q := copied(p)
	if _, e := Bound(a, b, c, p); e != api.OK || !isTable(p, q) {
		t.Error(p, e)
	}
	if Check(a, b, c, x) != api.OK || len(Kept(x)) == 0 || !isAlignment(x, want) {
		t.Error(x)
	}
	clear(x.Steps)
	if !isAlignment(y, want) {
		t.Error(y)
	}
	for i := range p {
		for j := range cap(p[i]) {
			p[i][:cap(p[i])][j] = -1
		}
		for k := i + 1; k < len(p); k++ {
			if !slices.Equal(p[k], q[k]) {
				t.Fatal(i, k, p[k])
			}
		}
	}
	if spell(a) != spell(letters("abca")) || spell(b) != spell(letters("cabb")) || a[0].Line != 5 {
		t.Error(a, b)
	}
	// long words are compared only once
	long := string(make([]byte, 1<<20))
	for i := range a {
		a[i].Text = long + a[i].Text
		b[i].Text = long + b[i].Text
	}
	if x, e := Align(a, b, c); e != api.OK || !isAlignment(x, want) {
		t.Error(x, e)
	}
}
