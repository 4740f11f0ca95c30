// Package parse reads a pattern's tokens by the grammar.
package parse

// Pattern is what the grammar tells of a pattern.
type Pattern struct {
	Window, Rate int
	Body         Sequence
}

// Sequence is parts, one behind the other.
type Sequence []Part

// Part is a step, a guard (it has no name), or brackets (they have choices).
type Part struct {
	Name      string
	Place     int // of a step's name, or of a guard's `not`
	Times     int // how many steps it gives a path: a guard none
	Kind      int
	Condition []Op // empty where none stands
	Choices   []Sequence
}

// Op is one thing to be done on a stack of numbers: a condition is a list of
// them, in which each sign stands behind the two it puts together.
type Op struct {
	Do     string // Push, Opposite, a field, a sign, `and` or `or`
	Number int    // to be pushed
	Name   string // whose field it is; empty for `it`
	Place  int    // of the name
}

// What is done beside that which the pattern's own words and signs say.
const (
	Push     = "push"
	Opposite = "opposite"
)

// IsStep tells a step from a guard or brackets.
func (p Part) IsStep() bool { return p.Name != "" }
