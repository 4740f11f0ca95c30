package watch

import "slices"

// run is the events of the first steps of a path.
type run struct {
	steps []step // all of the path's
	taken []*seen
}

func (r run) next() step { return r.steps[len(r.taken)] }

func (r run) isWhole() bool { return len(r.taken) == len(r.steps) }

// takes: the event can be that of the next step.
func (r run) takes(now *seen) bool { return r.next().fits(r.taken, now) }

// stops: the event is one that may not come ahead of that of the next step.
func (r run) stops(now *seen) bool {
	return slices.ContainsFunc(r.next().guards, func(guard want) bool { return guard.fits(r.taken, now) })
}

// with is the run and an event more, in memory of its own.
func (r run) with(now *seen) run {
	return run{r.steps, append(slices.Clip(r.taken), now)}
}

func (r run) numbers() []int {
	var all []int
	for _, s := range r.taken {
		all = append(all, s.number)
	}
	return all
}

// runs is a heap: on its top is a run whose first event is the oldest.
type runs []run

func (h runs) Len() int { return len(h) }

func (h runs) Less(i, j int) bool { return h[i].taken[0].Time < h[j].taken[0].Time }

func (h runs) Swap(i, j int) { h[i], h[j] = h[j], h[i] }

func (h *runs) Push(x any) { *h = append(*h, x.(run)) }

func (h *runs) Pop() any {
	last := len(*h) - 1
	r := (*h)[last]
	(*h)[last] = run{} // else the spare room would keep its events
	*h = (*h)[:last]
	return r
}
