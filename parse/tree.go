// Package parse reads a pattern's tokens by the grammar.
package parse

// Pattern is what the checks behind the grammar ask of a pattern.
type Pattern struct {
	Rate int
	Body Sequence
}

// Sequence is parts, one behind the other.
type Sequence []Part

// Part is a step, a guard (it has no name), or brackets (they have choices).
type Part struct {
	Name    string
	Place   int // of a step's name, or of a guard's `not`
	Times   int // how many steps it gives a path: a guard none
	Uses    []Use
	Choices []Sequence
}

// Use is a name in a condition.
type Use struct {
	Name  string
	Place int
}

// IsStep tells a step from a guard or brackets.
func (p Part) IsStep() bool { return p.Name != "" }
