package sample

import (
	"math/rand"
	"strings"
	"testing"

	"licit/api"
	"licit/build"
)

// What a maker makes can be built, has steps of all kinds, and packages that read each other's files.
func TestDistributions(t *testing.T) {
	r := rand.New(rand.NewSource(1))
	m := Maker{r.Intn}
	kinds := map[int]int{}
	abroad := 0
	for range 120 {
		b, f := build.Build(m.Distribution(1+r.Intn(3), 8))
		if f != (api.Fault{}) {
			t.Fatal(f)
		}
		for _, x := range b.Record {
			kinds[x.Kind]++
			for _, y := range x.Reads {
				own, _, _ := strings.Cut(x.Wrote.Path, "/")
				if !strings.HasPrefix(y.Path, own+"/") {
					abroad++
				}
			}
		}
	}
	for kind := api.StepCompile; kind <= api.StepInstall; kind++ {
		if kinds[kind] < 20 {
			t.Error(kind, kinds[kind])
		}
	}
	if abroad < 20 {
		t.Error(abroad)
	}
}

// The same choices lead to the same distribution.
func TestChoices(t *testing.T) {
	make := func(seed int64) string {
		b, _ := build.Build(Maker{rand.New(rand.NewSource(seed)).Intn}.Distribution(2, 6))
		var l []string
		for _, x := range b.Record {
			l = append(l, x.Wrote.Path, x.Wrote.Digest)
		}
		return strings.Join(l, " ")
	}
	if make(1) != make(1) || make(1) == make(2) {
		t.Error(make(1))
	}
}

// Every plot can be built, whichever objects are compiled.
func TestPlots(t *testing.T) {
	r := rand.New(rand.NewSource(2))
	seen := map[int]bool{}
	for range 200 {
		m := Maker{r.Intn}
		p := m.begin("a")
		b, f := build.Build(api.Distribution{p})
		if f != (api.Fault{}) {
			t.Fatal(f, p.Tree)
		}
		seen[len(b.Installed)] = true
	}
	if len(seen) != 3 {
		t.Error(seen)
	}
}
