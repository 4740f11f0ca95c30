package watch

import (
	"herald/api"
	"herald/paths"
)

// seen is an event that was fed.
type seen struct {
	api.Event
	number int
}

// want is what a step or a guard asks of an event.
type want struct {
	kind int
	condition
}

// step is a step of a path, with the guards between the one ahead and itself.
type step struct {
	want
	guards []want
}

// fits: ahead are the events of the steps ahead, it is the one in question.
func (w want) fits(ahead []*seen, it *seen) bool {
	return it.Kind == w.kind && w.holds(ahead, it)
}

func stepsOf(path paths.Path) []step {
	var steps []step
	var names []string
	var guards []want
	for _, part := range path {
		known := append(names, part.Name)
		asked := want{part.Kind, bind(part.Condition, known)}
		if !part.IsStep() {
			guards = append(guards, asked)
			continue
		}
		steps = append(steps, step{asked, guards})
		names, guards = known, nil
	}
	return steps
}
