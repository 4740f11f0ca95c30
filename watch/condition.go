package watch

import "herald/parse"

// condition is a list of things to be done on a stack of numbers. An empty one is true.
type condition []op

// op is a parse.Op in one path: a name has become the index of a step there.
type op struct {
	do     string
	number int // to be pushed, or the step whose event's field it is
}

// bind tells a condition in a path: names are those of the steps ahead of it,
// and the last one stands for the event in question itself.
func bind(ops []parse.Op, names []string) condition {
	var bound condition
	for _, o := range ops {
		number := o.Number
		switch o.Do {
		case "a", "b", "c", "t":
			number = stepOf(o.Name, names)
		}
		bound = append(bound, op{o.Do, number})
	}
	return bound
}

// stepOf is the last step of a name; `it`, which has none, is the event in question.
func stepOf(name string, names []string) int {
	step := len(names) - 1
	for i, n := range names {
		if n == name {
			step = i
		}
	}
	return step
}

// holds works the condition out, of an event and those of the steps ahead of it.
func (c condition) holds(ahead []*seen, it *seen) bool {
	if len(c) == 0 {
		return true
	}
	s := stack{ahead: ahead, it: it}
	for _, o := range c {
		s.do(o)
	}
	return s.pop() == 1
}

type stack struct {
	ahead   []*seen
	it      *seen
	numbers []int
	byZero  bool // in the test that is worked out something was divided by 0
}

func (s *stack) push(n int) { s.numbers = append(s.numbers, n) }

func (s *stack) pop() int {
	last := len(s.numbers) - 1
	n := s.numbers[last]
	s.numbers = s.numbers[:last]
	return n
}

// event is that of a step: the one behind those ahead is in question.
func (s *stack) event(step int) *seen {
	if step < len(s.ahead) {
		return s.ahead[step]
	}
	return s.it
}

func (s *stack) do(o op) {
	switch o.do {
	case parse.Push:
		s.push(o.number)
	case "a":
		s.push(s.event(o.number).A)
	case "b":
		s.push(s.event(o.number).B)
	case "c":
		s.push(s.event(o.number).C)
	case "t":
		s.push(s.event(o.number).Time)
	case parse.Opposite:
		s.push(-s.pop())
	default:
		right := s.pop()
		left := s.pop()
		s.push(s.both(left, o.do, right))
	}
}

func (s *stack) both(left int, sign string, right int) int {
	switch sign {
	case "+":
		return left + right
	case "-":
		return left - right
	case "*":
		return left * right
	case "/":
		return s.divide(left, right)
	case "and":
		return left & right
	case "or":
		return left | right
	}
	return s.test(left, sign, right)
}

func (s *stack) divide(left, right int) int {
	if right == 0 {
		s.byZero = true
		return 0
	}
	return left / right
}

// test tells 1 for a test that is true, and 0 for one that is not.
func (s *stack) test(left int, sign string, right int) int {
	whole := !s.byZero
	s.byZero = false
	if whole && compare(left, sign, right) {
		return 1
	}
	return 0
}

func compare(left int, sign string, right int) bool {
	switch sign {
	case "=":
		return left == right
	case "!=":
		return left != right
	case "<":
		return left < right
	case "<=":
		return left <= right
	case ">":
		return left > right
	}
	return left >= right
}
