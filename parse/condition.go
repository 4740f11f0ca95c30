package parse

import "herald/scan"

// condition reads `if` and what comes behind it, where it stands, and tells the names in it.
func (r *reader) condition() []Use {
	r.uses = nil
	if !r.take("if") {
		return nil
	}
	r.both()
	for r.take("or") {
		r.both()
	}
	return r.uses
}

func (r *reader) both() {
	r.test()
	for r.take("and") {
		r.test()
	}
}

func (r *reader) test() {
	r.sum()
	r.expect("=", "!=", "<", "<=", ">", ">=")
	r.sum()
}

func (r *reader) sum() {
	r.product()
	for r.take("+", "-") {
		r.product()
	}
}

func (r *reader) product() {
	r.factor()
	for r.take("*", "/") {
		r.factor()
	}
}

func (r *reader) factor() {
	switch t := r.now(); {
	case t.Kind == scan.Number:
		r.skip()
	case t.Text == "-":
		r.enter()
		r.factor()
		r.leave()
	case t.Text == "(":
		r.enter()
		r.sum()
		r.expect(")")
		r.leave()
	case t.Kind == scan.Name:
		r.uses = append(r.uses, Use{t.Text, t.Place})
		fallthrough // a name has a field behind it, as `it` has
	case t.Text == "it":
		r.skip()
		r.expect(".")
		r.expect("a", "b", "c", "t")
	default:
		r.fail()
	}
}
