package recipe

import (
	"slices"
	"strings"

	"licit/api"
)

// What stands in a row for words that can be chosen.
const (
	slotIn    = "IN"    // a reference, one of In
	slotUsing = "USING" // a reference, one of Using
	slotName  = "NAME"  // an identifier, one of Words
	slotOut   = "OUT"   // a path, which is Out
	andMore   = ".."    // any number of words more of the same sort
)

// blank stands between the words of a line.
const blank = " "

// row says what words the steps of a kind have.
type row struct {
	kind  int
	words string
}

// rows are all forms that a step can have.
var rows = []row{
	{api.StepCompile, "compile IN to OUT"},
	{api.StepCompile, "compile IN to OUT with NAME .."},
	{api.StepArchive, "archive IN .. to OUT"},
	{api.StepShare, "share IN .. to OUT"},
	{api.StepLink, "link NAME IN .. to OUT"},
	{api.StepLink, "link NAME IN .. using USING .. to OUT"},
	{api.StepRun, "run IN on IN to OUT"},
	{api.StepRun, "run IN using USING .. on IN to OUT"},
	{api.StepPatch, "patch IN with IN to OUT"},
	{api.StepCopy, "copy IN to OUT"},
	{api.StepInstall, "install IN as OUT"},
}

// isSeparator says whether a word is none that can be chosen.
func isSeparator(word string) bool {
	switch word {
	case "to", "with", "using", "on", "as":
		return true
	}
	return false
}

// chosen returns how many words a list begins with that can be chosen.
func chosen(words []string) int {
	if n := slices.IndexFunc(words, isSeparator); n >= 0 {
		return n
	}
	return len(words)
}

// fill returns the step of some words, of which not more was checked than that they have the form of the row, and whether they have it.
func (r row) fill(words []string) (api.Step, bool) {
	s := api.Step{Kind: r.kind}
	slot := ""
	for _, part := range strings.Split(r.words, blank) {
		size := 1
		switch part {
		case slotIn, slotUsing, slotName, slotOut:
			slot = part
			if chosen(words) == 0 {
				return api.Step{}, false
			}
			add(&s, slot, words[0])
		case andMore:
			size = chosen(words)
			add(&s, slot, words[:size]...)
		default:
			if len(words) == 0 || words[0] != part {
				return api.Step{}, false
			}
		}
		words = words[size:]
	}
	return s, len(words) == 0
}

// add adds words that stand for a slot to a step.
func add(s *api.Step, slot string, words ...string) {
	switch slot {
	case slotIn:
		s.In = append(s.In, words...)
	case slotUsing:
		s.Using = append(s.Using, words...)
	case slotName:
		s.Words = append(s.Words, words...)
	case slotOut:
		s.Out = words[0]
	}
}

// print returns the line of a step that has the form of the row. That of another step does not lead back to it.
func (r row) print(s api.Step) string {
	lists := map[string][]string{slotIn: s.In, slotUsing: s.Using, slotName: s.Words, slotOut: {s.Out}}
	var words []string
	slot := ""
	for _, part := range strings.Split(r.words, blank) {
		size := 0
		switch part {
		case slotIn, slotUsing, slotName, slotOut:
			slot = part
			size = min(1, len(lists[slot]))
		case andMore:
			size = len(lists[slot])
		default:
			words = append(words, part)
		}
		words = append(words, lists[slot][:size]...)
		lists[slot] = lists[slot][size:]
	}
	return join(words...)
}

// join returns the line of some words.
func join(words ...string) string { return strings.Join(words, blank) }
