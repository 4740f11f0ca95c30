// Package herald: patterns of events, found as they come: see DOC.md.
package herald

import (
	"herald/api"
	"herald/parse"
	"herald/paths"
	"herald/scan"
)

// Engine looks for a pattern.
type Engine struct {
	bound int
}

// Compile reads a pattern (P3).
func Compile(text string) (*Engine, int, api.Errno) {
	_, bound, place, e := read(text)
	if e != api.OK {
		return nil, place, e
	}
	return &Engine{bound: bound}, 0, api.OK
}

// Print tells a pattern (P4).
func Print(text string) (string, int, api.Errno) {
	tokens, _, place, e := read(text)
	if e != api.OK {
		return "", place, e
	}
	return scan.Join(tokens), 0, api.OK
}

// Feed feeds an event (P5).
func (e *Engine) Feed(ev api.Event) ([][]int, api.Errno) { return nil, api.OK }

// Look tells how the engine is (P6).
func (e *Engine) Look() api.View { return api.View{Bound: e.bound} }

// read tells a pattern's tokens and bound, or its first error and the place of that.
func read(text string) ([]scan.Token, int, int, api.Errno) {
	if len(text) > api.MaxText {
		return nil, 0, api.MaxText, api.ErrText
	}
	tokens := scan.Tokens(text)
	pattern, place, e := parse.Read(tokens)
	if e != api.OK {
		return nil, 0, place, e
	}
	bound, place, e := paths.Bound(pattern)
	return tokens, bound, place, e
}
