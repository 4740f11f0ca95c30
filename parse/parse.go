package parse

import (
	"herald/api"
	"herald/scan"
)

// Read reads what scan.Tokens told, or tells the first error and its place:
// of the grammar, of the depth, of the numbers.
func Read(tokens []scan.Token) (Pattern, int, api.Errno) {
	r := reader{ahead: tokens}
	p := r.pattern()
	switch last := r.now(); {
	case last.Kind != scan.End:
		return Pattern{}, last.Place, api.ErrText
	case r.tooDeep.set:
		return Pattern{}, r.tooDeep.place, api.ErrDeep
	case r.badNumber.set:
		return Pattern{}, r.badNumber.place, api.ErrNumber
	}
	return p, 0, api.OK
}

func (r *reader) pattern() Pattern {
	r.expect("within")
	window := r.number(1, api.MaxWindow)
	r.expect("rate")
	rate := r.number(1, api.MaxRate)
	return Pattern{Window: window, Rate: rate, Body: r.sequence()}
}

func (r *reader) sequence() Sequence {
	s := Sequence{r.part()}
	for r.take("then") {
		s = append(s, r.part())
	}
	return s
}

func (r *reader) part() Part {
	switch t := r.now(); {
	case t.Kind == scan.Name:
		return r.step()
	case t.Text == "not":
		return r.guard()
	case t.Text == "(":
		return r.brackets()
	}
	r.fail()
	return Part{}
}

func (r *reader) step() Part {
	t := r.now()
	step := Part{Name: t.Text, Place: t.Place, Times: 1}
	r.skip()
	r.expect(":")
	step.Kind = r.number(0, api.MaxKind)
	if r.take("times") {
		step.Times = r.number(1, api.MaxTimes)
	}
	step.Condition = r.condition()
	return step
}

func (r *reader) guard() Part {
	guard := Part{Place: r.now().Place}
	r.skip()
	guard.Kind = r.number(0, api.MaxKind)
	guard.Condition = r.condition()
	return guard
}

func (r *reader) brackets() Part {
	r.enter()
	choices := []Sequence{r.sequence()}
	r.expect("|")
	choices = append(choices, r.sequence())
	for r.take("|") {
		choices = append(choices, r.sequence())
	}
	r.expect(")")
	r.leave()
	return Part{Choices: choices}
}
