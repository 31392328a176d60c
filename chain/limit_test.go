package chain

import (
	"fmt"
	"slices"
	"strings"
	"testing"

	"licit/api"
	"licit/influence"
	"licit/lineset"
	"licit/sample"
)

// P21.1 to P21.3: the input and the output of a run may be as long as files can be. Lines that no set can have lead to the output, too.
func TestLongRuns(t *testing.T) {
	d := api.Distribution{pack("a", []string{"compile s to o", "link main o to bin", "run bin on in to t1", "run bin on t1 to t2", "install t2 as o2"},
		"s", lines("export fn main 7", "let n = 3750", "while n 5", "out 10", "out 10", "out 10", "out 10", "set n = n - 1"),
		"in", strings.Repeat("\n", api.MaxData))}
	l, e := Each(d, "a/o2")
	if e != api.OK || len(l) != api.MaxData+1+5+8 {
		t.Fatal(len(l), e)
	}
	i, _ := influence.Of(d, "a/o2")
	influences, _ := influence.Lines(i)
	l = slices.DeleteFunc(l, func(c api.Chain) bool { return c.Line.Path == "a/in" && c.Line.N >= api.MaxLines })
	if len(l) != lineset.Count(influences) {
		t.Error(len(l))
	}
	expect(t, d, "a/o2", fmt.Sprintf("a/in:%d in: 2 a/t1, 3 a/t2, 4 a/o2", api.MaxData))
	expect(t, d, "a/o2", "a/s:7 by: 0 a/o#0, 1 a/bin#0, 3 a/t2 by, 4 a/o2")
	last := "a/in:4000 in: 2 a/t1:14999, 3 a/t2:15000, 4 a/o2:15000"
	expectCheck(t, d, "a/o2", chainOf(last), api.OK)
	expectCheck(t, d, "a/o2", chainOf(strings.ReplaceAll(last, "15000", "15001")), api.ErrProof)
	expectText(t, d, chainOf(last), "a/in line 4000", "step 2 run in a/t1 line 14999", "step 3 run in a/t2 line 15000", "step 4 install in a/o2 line 15000")
	// all hops of a text may be of the same long step
	c := chainOf(last)
	c.Hops = slices.Repeat(c.Hops[1:2], 5000)
	if text, e := Explain(d, c); e != api.OK || strings.Count(text, "step 3 run in a/t2 line 15000\n") != 5000 {
		t.Error(e)
	}
}

// P21.1: a chain may have as many hops as there is room for files.
func TestLongChains(t *testing.T) {
	recipe := []string{"copy x to f0"}
	want := "a/x:0 in: 0 a/f0:0"
	for n := range api.MaxFiles - 4 {
		recipe = append(recipe, fmt.Sprintf("copy f%d to f%d", n, n+1))
		want += fmt.Sprintf(", %d a/f%d:0", n+1, n+1)
	}
	recipe = append(recipe, fmt.Sprintf("install f%d as z", api.MaxFiles-4))
	want += fmt.Sprintf(", %d a/z:0", api.MaxFiles-3)
	d := api.Distribution{pack("a", recipe, "x", "")}
	expect(t, d, "a/z", want)
	if c := chainOf(want); len(c.Hops) != api.MaxFiles-2 {
		t.Error(len(c.Hops))
	}
}

// P21.1 to P21.3: arguments are not changed, and no two chains share memory.
func TestMemory(t *testing.T) {
	d := sample.Factory()
	l, _ := Each(d, "app/out/text")
	c, _ := Find(d, "app/out/text", at("app/in", 0))
	before := fmt.Sprint(d, c)
	if e := Check(d, "app/out/text", c); e != api.OK {
		t.Error(e)
	}
	Explain(d, c)
	if fmt.Sprint(d, c) != before {
		t.Error("changed")
	}
	for i, c := range l {
		whole := c.Hops[:cap(c.Hops)]
		for j := range whole {
			whole[j] = api.Hop{Step: i}
		}
	}
	for i, c := range l {
		for _, h := range c.Hops {
			if h != (api.Hop{Step: i}) {
				t.Fatal(i, h)
			}
		}
	}
	expect(t, d, "app/out/text", "app/in:0 in: 11 app/text, 15 app/out/text")
}
