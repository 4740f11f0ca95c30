// Package paths works out the paths of a pattern, and what hangs on them.
package paths

import (
	"slices"

	"herald/api"
	"herald/parse"
)

// Path is steps, with guards between them: no brackets, each step once for each of its times.
type Path []parse.Part

// Plan is a pattern, as its paths.
type Plan struct {
	Window, Rate int
	Bound        int // how many runs it can ever have
	Paths        []Path
}

// Make works out the plan of a pattern; or the first error of its paths, and its place.
func Make(p parse.Pattern) (Plan, int, api.Errno) {
	if isBig(p.Body) {
		return Plan{}, 0, api.ErrBig
	}
	all := ofSequence(p.Body)
	if place, e := firstFault(all, guardFault); e != api.OK {
		return Plan{}, place, e
	}
	if place, e := firstFault(all, nameFault); e != api.OK {
		return Plan{}, place, e
	}
	bound := 0
	for _, path := range all {
		bound += mostRuns(path, p.Rate)
	}
	if bound > api.MaxBound {
		return Plan{}, 0, api.ErrBig
	}
	return Plan{p.Window, p.Rate, bound, all}, 0, api.OK
}

// isBig counts without making the paths, of which a short text can have very many.
func isBig(s parse.Sequence) bool {
	count, steps := size(s)
	return count > api.MaxPaths || steps > api.MaxSteps
}

// size tells how many paths a sequence has, and how many steps the longest of
// them has. It stops counting paths beyond MaxPaths, so that no number of
// brackets makes the count wrap round.
func size(s parse.Sequence) (count, steps int) {
	count = 1
	for _, part := range s {
		ways, longest := sizeOfPart(part)
		count = min(count*ways, api.MaxPaths+1)
		steps += longest
	}
	return count, steps
}

func sizeOfPart(part parse.Part) (count, steps int) {
	if part.Choices == nil {
		return 1, part.Times
	}
	for _, choice := range part.Choices {
		ways, longest := size(choice)
		count += ways
		steps = max(steps, longest)
	}
	return count, steps
}

func ofSequence(s parse.Sequence) []Path {
	all := []Path{nil}
	for _, part := range s {
		all = eachBehind(all, ofPart(part))
	}
	return all
}

// eachBehind puts each tail behind each head.
func eachBehind(heads, tails []Path) []Path {
	var all []Path
	for _, head := range heads {
		for _, tail := range tails {
			all = append(all, slices.Concat(head, tail))
		}
	}
	return all
}

func ofPart(part parse.Part) []Path {
	switch {
	case part.IsStep():
		return []Path{slices.Repeat(Path{part}, part.Times)}
	case part.Choices == nil:
		return []Path{{part}}
	}
	var all []Path
	for _, choice := range part.Choices {
		all = append(all, ofSequence(choice)...)
	}
	return all
}

// mostRuns adds up in how many ways fewer events than a path has steps can be
// taken out of as many as the rate lets into a window.
func mostRuns(path Path, rate int) int {
	runs, ways := 0, 1
	for taken := range stepsOf(path) - 1 {
		ways = ways * (rate - taken) / (taken + 1)
		runs += ways
	}
	return runs
}

func stepsOf(path Path) int {
	n := 0
	for _, part := range path {
		if part.IsStep() {
			n++
		}
	}
	return n
}
