package record

import (
	"maps"
	"slices"

	"licit/api"
)

// writers returns the step that writes each of the paths that steps write; nothing, if the record is not valid.
func writers(r api.Record) map[string]int {
	if Check(r) != api.OK {
		return nil
	}
	steps := map[string]int{}
	for i, s := range r {
		steps[s.Wrote.Path] = i
	}
	return steps
}

// Writer returns the step that writes a path, -1 if there is none, or the record is not valid.
func Writer(r api.Record, path string) int {
	step, written := writers(r)[path]
	if !written {
		return -1
	}
	return step
}

// Needed returns the steps without which a path cannot be made, in order; nothing, if nobody writes it, or the record is not valid.
func Needed(r api.Record, path string) []int { return needed(r, writers(r), path) }

// needed returns the steps that are needed for a path, with the writers of all paths.
func needed(r api.Record, writers map[string]int, path string) []int {
	last, written := writers[path]
	if !written {
		return nil
	}
	isNeeded := make([]bool, last+1)
	isNeeded[last] = true
	var steps []int
	// what a step reads was written before it, so whether a step is needed is known when the ones behind it were looked at
	for i := last; i >= 0; i-- {
		if !isNeeded[i] {
			continue
		}
		steps = append(steps, i)
		for _, f := range r[i].Reads {
			if w, written := writers[f.Path]; written {
				isNeeded[w] = true
			}
		}
	}
	slices.Reverse(steps)
	return steps
}

// Sources returns the files that nobody writes, and that the steps needed for a path read, sorted; nothing, if nobody writes the path, or the record is not valid.
func Sources(r api.Record, path string) []string {
	w := writers(r)
	sources := map[string]bool{}
	for _, i := range needed(r, w, path) {
		for _, f := range r[i].Reads {
			if _, written := w[f.Path]; !written {
				sources[f.Path] = true
			}
		}
	}
	return slices.Sorted(maps.Keys(sources))
}

// Affected returns the steps that have to be done again if files change, in order; nothing, if the record is not valid.
func Affected(r api.Record, paths []string) []int {
	if Check(r) != api.OK {
		return nil
	}
	changed := map[string]bool{}
	for _, p := range paths {
		changed[p] = true
	}
	var steps []int
	for i, s := range r {
		if slices.ContainsFunc(s.Reads, func(f api.Touch) bool { return changed[f.Path] }) {
			// nobody in front of this step has read what it writes
			changed[s.Wrote.Path] = true
			steps = append(steps, i)
		}
	}
	return steps
}
