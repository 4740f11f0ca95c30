package parse

import (
	"herald/api"
	"herald/scan"
)

// condition reads `if` and what comes behind it, where it stands.
func (r *reader) condition() []Op {
	r.ops = nil
	if r.take("if") {
		r.chain(r.both, "or")
	}
	return r.ops
}

func (r *reader) both() { r.chain(r.test, "and") }

func (r *reader) test() {
	r.sum()
	sign := r.expect("=", "!=", "<", "<=", ">", ">=")
	r.sum()
	r.put(Op{Do: sign})
}

func (r *reader) sum() { r.chain(r.product, "+", "-") }

func (r *reader) product() { r.chain(r.factor, "*", "/") }

func (r *reader) factor() {
	var field Op
	switch t := r.now(); {
	case t.Kind == scan.Number:
		r.put(Op{Do: Push, Number: r.number(0, api.MaxNumber)})
	case t.Text == "-":
		r.enter()
		r.factor()
		r.leave()
		r.put(Op{Do: Opposite})
	case t.Text == "(":
		r.enter()
		r.sum()
		r.expect(")")
		r.leave()
	case t.Kind == scan.Name:
		field.Name, field.Place = t.Text, t.Place
		fallthrough // a name has a field behind it, as `it` has
	case t.Text == "it":
		r.skip()
		r.expect(".")
		field.Do = r.expect("a", "b", "c", "t")
		r.put(field)
	default:
		r.fail()
	}
}

// chain reads parts with signs between them. Each sign is put as soon as the
// part behind it is read, so that those on the left are done first.
func (r *reader) chain(part func(), signs ...string) {
	part()
	for {
		sign := r.which(signs...)
		if sign == "" {
			return
		}
		part()
		r.put(Op{Do: sign})
	}
}

func (r *reader) put(op Op) { r.ops = append(r.ops, op) }
