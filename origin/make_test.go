package origin

import (
	"slices"
	"strings"
	"testing"

	"licit/api"
	"licit/sample"
)

// pack returns a package with a recipe, and paths and data of other files in turn.
func pack(name, recipe string, parts ...string) api.Package {
	return sample.Package(name, recipe, parts...)
}

// lines joins lines.
func lines(l ...string) string { return strings.Join(l, "\n") }

// traced returns the tracer of a distribution that can be built.
func traced(t *testing.T, d ...api.Package) *Tracer {
	t.Helper()
	x, f := New(d)
	if f != (api.Fault{}) || x == nil {
		t.Fatal(f)
	}
	return x
}

// showAll writes segments.
func showAll(l []api.Segment) string {
	var words []string
	for _, s := range l {
		words = append(words, sample.Show(s))
	}
	return strings.Join(words, " ")
}

// routeNames are behind what comes on a route.
var routeNames = map[int]string{api.RouteIn: "", api.RouteBy: " by", api.RouteList: " list"}

// showFlows writes flows, those to one segment as one text: "to < from, from by, from list".
func showFlows(flows []api.Flow) []string {
	var l []string
	for i, x := range flows {
		from := sample.Show(x.From) + routeNames[x.Route]
		if i > 0 && flows[i-1].To == x.To {
			l[len(l)-1] += ", " + from
		} else {
			l = append(l, sample.Show(x.To)+" < "+from)
		}
	}
	return l
}

// expect compares the flows of a step.
func expect(t *testing.T, x *Tracer, step int, want ...string) {
	t.Helper()
	got := showFlows(x.Flows(step))
	if slices.Equal(got, want) {
		return
	}
	for i := range max(len(got), len(want)) {
		if i >= len(got) || i >= len(want) || got[i] != want[i] {
			t.Errorf("step %d, %d: %q, want %q", step, i, got[i:min(i+1, len(got))], want[i:min(i+1, len(want))])
		}
	}
}

// expectSegments compares the kind and the segments of an artifact.
func expectSegments(t *testing.T, x *Tracer, path string, kind int, want string) {
	t.Helper()
	if got := showAll(x.Segments(path)); got != want || x.Artifact(path) != kind {
		t.Errorf("%s: %d %s, want %s", path, x.Artifact(path), got, want)
	}
}
