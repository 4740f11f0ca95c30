// Package herald: patterns of events, found as they come: see DOC.md.
package herald

import (
	"herald/api"
	"herald/parse"
	"herald/paths"
	"herald/scan"
	"herald/watch"
)

// Engine looks for a pattern.
type Engine struct {
	bound  int
	failed api.Errno
	watch  *watch.Watch
}

// Compile reads a pattern (P3).
func Compile(text string) (*Engine, int, api.Errno) {
	_, plan, place, e := read(text)
	if e != api.OK {
		return nil, place, e
	}
	return &Engine{bound: plan.Bound, watch: watch.New(plan)}, 0, api.OK
}

// Print tells a pattern (P4).
func Print(text string) (string, int, api.Errno) {
	tokens, _, place, e := read(text)
	if e != api.OK {
		return "", place, e
	}
	return scan.Join(tokens), 0, api.OK
}

// Feed feeds an event (P5).
func (e *Engine) Feed(ev api.Event) (matches [][]int, fault api.Errno) {
	defer func() { e.failed = fault }() // a failure stays, at whichever end the call comes out
	if e.failed != api.OK {
		return nil, e.failed
	}
	if fault = e.watch.Fault(ev); fault != api.OK {
		return nil, fault
	}
	return e.watch.Take(ev), api.OK
}

// Look tells how the engine is (P6).
func (e *Engine) Look() api.View {
	return api.View{Events: e.watch.Events(), Runs: e.watch.Runs(), Bound: e.bound, Failed: e.failed}
}

// read tells a pattern's tokens and its plan, or its first error and the place of that.
func read(text string) ([]scan.Token, paths.Plan, int, api.Errno) {
	if len(text) > api.MaxText {
		return nil, paths.Plan{}, api.MaxText, api.ErrText
	}
	tokens := scan.Tokens(text)
	pattern, place, e := parse.Read(tokens)
	if e != api.OK {
		return nil, paths.Plan{}, place, e
	}
	plan, place, e := paths.Make(pattern)
	return tokens, plan, place, e
}
