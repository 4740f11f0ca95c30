// Package watch looks for a pattern in events as they come.
package watch

import (
	"container/heap"
	"slices"

	"herald/api"
	"herald/paths"
)

// Watch is a pattern, and what must be known of the events fed so far.
type Watch struct {
	window, rate int
	paths        [][]step
	count        int   // of all events
	times        []int // of the events in the window that ends with the last one
	runs         runs
}

// New makes a watch that has seen no event.
func New(p paths.Plan) *Watch {
	w := &Watch{window: p.Window, rate: p.Rate}
	for _, path := range p.Paths {
		w.paths = append(w.paths, stepsOf(path))
	}
	return w
}

// Events is how many events were taken.
func (w *Watch) Events() int { return w.count }

// Runs is how many runs there are, of all paths.
func (w *Watch) Runs() int { return len(w.runs) }

// Fault tells why an event may not be taken, or OK.
func (w *Watch) Fault(ev api.Event) api.Errno {
	last := len(w.times) - 1
	switch {
	case last >= 0 && ev.Time < w.times[last]:
		return api.ErrTime
	case len(w.times)-w.passed(ev.Time) >= w.rate:
		return api.ErrRate
	}
	return api.OK
}

// Take takes an event of which Fault says nothing, and tells the matches that end with it.
func (w *Watch) Take(ev api.Event) [][]int {
	w.forget(ev.Time)
	now := &seen{ev, w.count}
	w.count++
	w.times = append(w.times, ev.Time)
	grown := w.grown(now)
	w.runs = slices.DeleteFunc(w.runs, func(r run) bool { return r.stops(now) })
	heap.Init(&w.runs)
	return w.keep(grown)
}

// forget drops what is too old for a window that ends at a time.
func (w *Watch) forget(time int) {
	w.times = slices.Delete(w.times, 0, w.passed(time))
	for len(w.runs) > 0 && !w.isNear(w.runs[0].taken[0].Time, time) {
		heap.Pop(&w.runs)
	}
}

// passed tells how many of the times are no more in the window that ends at a time.
func (w *Watch) passed(time int) int {
	n := 0
	for n < len(w.times) && !w.isNear(w.times[n], time) {
		n++
	}
	return n
}

// isNear: from early to late it is less than the window. How far two times are
// from one another may be too much for an int, but not without a sign.
func (w *Watch) isNear(early, late int) bool {
	return uint64(late)-uint64(early) < uint64(w.window)
}

// grown tells the runs that come of this event, be they whole or not. Those
// they come of stay as they are: the next event may be taken in its stead.
func (w *Watch) grown(now *seen) []run {
	var all []run
	try := func(r run) {
		if r.takes(now) {
			all = append(all, r.with(now))
		}
	}
	for _, steps := range w.paths {
		try(run{steps: steps})
	}
	for _, r := range w.runs {
		try(r)
	}
	return all
}

// keep keeps runs that are not whole, and tells those that are: these are matches.
func (w *Watch) keep(grown []run) [][]int {
	var matches [][]int
	for _, r := range grown {
		if r.isWhole() {
			matches = append(matches, r.numbers())
		} else {
			heap.Push(&w.runs, r)
		}
	}
	// Several paths may tell the same match.
	slices.SortFunc(matches, slices.Compare)
	return slices.CompactFunc(matches, slices.Equal)
}
