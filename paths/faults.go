package paths

import (
	"slices"

	"herald/api"
	"herald/parse"
)

// firstFault tells, of the faults that look finds at any step or guard of any
// path, the one that stands first in the text.
func firstFault(all []Path, look func(Path, int) (int, api.Errno)) (int, api.Errno) {
	first, what := 0, api.OK
	for _, path := range all {
		for i := range path {
			place, e := look(path, i)
			if e != api.OK && (what == api.OK || place < first) {
				first, what = place, e
			}
		}
	}
	return first, what
}

// guardFault: a guard stands between two steps.
func guardFault(path Path, i int) (int, api.Errno) {
	if path[i].IsStep() || stepsOf(path[:i]) > 0 && stepsOf(path[i+1:]) > 0 {
		return 0, api.OK
	}
	return path[i].Place, api.ErrText
}

// nameFault: a name is one step's, and a condition knows its own step and those ahead.
func nameFault(path Path, i int) (int, api.Errno) {
	own, ahead := path[i], path[:i]
	if own.IsStep() && slices.ContainsFunc(ahead, func(p parse.Part) bool {
		return p.Name == own.Name && p.Place != own.Place // one place: the same step, more times
	}) {
		return own.Place, api.ErrTwice
	}
	for _, op := range own.Condition {
		if op.Name != "" && op.Name != own.Name && !isNamed(ahead, op.Name) {
			return op.Place, api.ErrName
		}
	}
	return 0, api.OK
}

func isNamed(path Path, name string) bool {
	return slices.ContainsFunc(path, func(p parse.Part) bool { return p.Name == name })
}
