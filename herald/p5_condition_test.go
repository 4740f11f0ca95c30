package herald_test

import (
	"math"
	"testing"

	"herald/api"
)

// holds: a condition of a single step, of the one event of kind 1 with these fields at time 3.
func holds(t *testing.T, want bool, condition string, fields ...int) {
	t.Helper()
	ev := api.Event{Time: 3, Kind: 1}
	for i, p := range []*int{&ev.A, &ev.B, &ev.C} {
		if i < len(fields) {
			*p = fields[i]
		}
	}
	matches, e := engine(t, "within 9 rate 9 x:1 if "+condition).Feed(ev)
	if e != api.OK || len(matches) > 1 || (len(matches) == 1) != want {
		t.Errorf("P5: if %s, of %+v: %v, %d, want %v", condition, ev, matches, e, want)
	}
}

func TestP5Tests(t *testing.T) {
	for _, c := range []struct {
		sign                 string
		below, equal, beyond bool
	}{
		{"=", false, true, false}, {"!=", true, false, true}, {"<", true, false, false}, {"<=", true, true, false}, {">", false, false, true}, {">=", false, true, true},
	} {
		holds(t, c.below, "it.a "+c.sign+" it.b", 4, 5)
		holds(t, c.equal, "it.a "+c.sign+" it.b", 5, 5)
		holds(t, c.beyond, "it.a "+c.sign+" it.b", 6, 5)
		holds(t, c.below, "it.a "+c.sign+" it.b", -6, -5)
		holds(t, c.below, "it.a "+c.sign+" it.b", math.MinInt, math.MaxInt)
		holds(t, c.equal, "it.a "+c.sign+" it.b", math.MinInt, math.MinInt)
		holds(t, c.beyond, "it.a "+c.sign+" it.b", math.MaxInt, math.MinInt)
		holds(t, c.beyond, "it.a "+c.sign+" it.b", 1, -1)
	}
}

func TestP5Fields(t *testing.T) {
	holds(t, true, "it.a = 10 and it.b = 20 and it.c = 30 and it.t = 3", 10, 20, 30)
	holds(t, true, "x.a = 10 and x.b = 20 and x.c = 30 and x.t = 3", 10, 20, 30)
	holds(t, false, "it.a != 10 or it.b != 20 or it.c != 30 or it.t != 3", 10, 20, 30)
	holds(t, true, "it.a = 999999999", 999999999)
	holds(t, true, "it.a = 000000012", 12)
}

func TestP5SumsAndProducts(t *testing.T) {
	for _, condition := range []string{
		"7 - 2 - 1 = 4", "8 / 4 / 2 = 1", "2 + 3 * 4 = 14", "2 * 3 + 4 = 10", "20 - 8 / 4 = 18", "(2 + 3) * 4 = 20", "100 / (2 + 3) = 20", "10 - (4 - 3) = 9", "7 / 2 * 2 = 6", "7 * 2 / 2 = 7",
		"- 2 * 3 = -6", "2 * - 3 = -6", "2 - - 3 = 5", "- - 1 = 1", "- - - 1 = -1", "-(1 + 2) = -3", "-1 + 2 = 1", "-7 / 2 = -3", "7 / -2 = -3", "-7 / -2 = 3", "1 / 2 = 0", "-1 / 2 = 0", "0 / 5 = 0", "0 / -5 = 0",
		"1 = 3 - 2", "1 < 2 + 3", "((1)) = (((1)))", "1 - 2 + 3 = 2", "8 / 2 * 4 = 16", "6 - 3 * 2 - 1 = -1", "999999999 * 999999999 = 999999998 * 1000 * 1000 * 1000 + 1",
	} {
		holds(t, true, condition)
	}
}

func TestP5WrapRound(t *testing.T) {
	holds(t, true, "x.a + 1 = x.b", math.MaxInt, math.MinInt)
	holds(t, true, "x.a + x.a = - 2", math.MaxInt)
	holds(t, true, "x.a - 1 = x.b", math.MinInt, math.MaxInt)
	holds(t, true, "0 - x.a = x.a", math.MinInt)
	holds(t, true, "- x.a = x.a", math.MinInt)
	holds(t, true, "- - x.a = x.a", math.MinInt)
	holds(t, true, "x.a * 2 = 0", math.MinInt)
	holds(t, true, "x.a * -1 = x.a", math.MinInt)
	holds(t, true, "x.a * x.a = 1", math.MaxInt)
	holds(t, true, "x.a * x.b = x.c", 1<<32, 1<<31, math.MinInt)
	holds(t, true, "x.a + 1 < x.a", math.MaxInt)
	holds(t, false, "x.a - 1 < x.a", math.MinInt)
	holds(t, true, "x.a / -1 = x.a", math.MinInt)
	holds(t, true, "x.a / x.b = x.a", math.MinInt, -1)
	holds(t, true, "x.a / 2 = x.b", math.MinInt, math.MinInt/2)
	holds(t, true, "x.a / x.a = 1", math.MinInt)
	holds(t, true, "x.a / x.b = 0", math.MaxInt, math.MinInt)
	holds(t, true, "x.a / x.b = -1", math.MinInt, math.MaxInt)
}

// A test is false if something in it is divided by 0, whatever it says, and that test alone.
func TestP5DividedByZero(t *testing.T) {
	for _, sign := range []string{"=", "!=", "<", "<=", ">", ">="} {
		holds(t, false, "1 / it.a "+sign+" 1")
		holds(t, false, "1 "+sign+" 1 / it.a")
		holds(t, false, "0 / it.a "+sign+" 0")
		holds(t, false, "it.b / it.a "+sign+" 0", 0, math.MinInt)
		holds(t, false, "0 * (1 / it.a) "+sign+" 0")
		holds(t, false, "1 / (1 / 0) "+sign+" 0 / 0")
		holds(t, false, "1 + -(2 / (3 - 3)) "+sign+" 1")
		holds(t, false, "1 / 0 / 1 "+sign+" 1")
	}
	holds(t, true, "1 / 0 = 1 or 1 = 1")
	holds(t, true, "1 = 1 or 1 / 0 = 1")
	holds(t, true, "1 / 0 = 1 or 1 / 0 = 0 or 1 = 1")
	holds(t, false, "1 / 0 = 1 and 1 = 1")
	holds(t, false, "1 = 1 and 1 / 0 = 1")
	holds(t, false, "1 = 1 and 1 / 0 = 0 or 1 = 2")
	holds(t, true, "1 = 1 and 1 / 0 = 0 or 1 = 1")
	holds(t, true, "1 / 2 = 0 and 1 = 1 or 1 / 0 = 0")
}

func TestP5AndOr(t *testing.T) {
	for n := range 8 {
		a, b, c := n&1, n>>1&1, n>>2&1
		holds(t, a == 1 && b == 1, "it.a = 1 and it.b = 1", a, b, c)
		holds(t, a == 1 || b == 1, "it.a = 1 or it.b = 1", a, b, c)
		holds(t, a == 1 || b == 1 && c == 1, "it.a = 1 or it.b = 1 and it.c = 1", a, b, c)
		holds(t, a == 1 && b == 1 || c == 1, "it.a = 1 and it.b = 1 or it.c = 1", a, b, c)
		holds(t, a == 1 && b == 1 && c == 1, "it.a = 1 and it.b = 1 and it.c = 1", a, b, c)
		holds(t, a == 1 || b == 1 || c == 1, "it.a = 1 or it.b = 1 or it.c = 1", a, b, c)
		holds(t, a == 1 && b == 1 || b == 0 && c == 1, "it.a = 1 and it.b = 1 or it.b = 0 and it.c = 1", a, b, c)
	}
}

func TestP5NamesAreSteps(t *testing.T) {
	tells(t, "within 9 rate 9 x:1 then y:2 if it.a = x.b and y.b = x.a", "[]:1 []:1 [[0 2]]:1 []:1",
		five{0, 1, 5, 6}, five{0, 2, 5, 6}, five{0, 2, 6, 5}, five{0, 2, 6, 6})
	tells(t, "within 9 rate 9 x:1 then y:2 then z:3 if z.a = x.a + y.a and it.t - x.t = 2", "[]:1 []:2 []:3 []:3 [[0 1 4]]:3 [[0 2 5]]:3",
		five{4, 1, 10}, five{4, 2, 1}, five{5, 2, 2}, five{5, 3, 11}, five{6, 3, 11}, five{6, 3, 12})
	// each of several runs has its own events
	tells(t, "within 9 rate 9 x:1 then y:2 if y.a = x.a", "[]:1 []:2 []:3 [[1 3]]:3 [[0 4] [2 4]]:3",
		five{0, 1, 5}, five{0, 1, 6}, five{0, 1, 5}, five{0, 2, 6}, five{0, 2, 5})
	// names that are also fields
	tells(t, "within 9 rate 9 a:1 then t:2 if t.a = a.t and a.a = t.t", "[]:1 []:1 [[0 2]]:1",
		five{2, 1, 3}, five{2, 2, 2}, five{3, 2, 2})
}

// Of a step with times a name is the last one ahead; in its own condition it is the event itself.
func TestP5Times(t *testing.T) {
	tells(t, "within 9 rate 9 x:1 times 3", "[]:1 []:3 [[0 1 2]]:6 [[0 1 3] [0 2 3] [1 2 3]]:10", five{0, 1}, five{0, 1}, five{0, 1}, five{0, 1})
	tells(t, "within 9 rate 9 x:1 times 1", "[[0]]:0", five{0, 1})
	tells(t, "within 9 rate 9 x:1 times 2 then y:2 if y.a = x.a", "[]:1 []:3 []:3 [[0 1 3]]:3", five{0, 1, 5}, five{0, 1, 6}, five{0, 2, 5}, five{0, 2, 6})
	tells(t, "within 9 rate 9 x:1 times 2 if x.a = it.a and x.a > 3", "[]:0 []:1 [[1 2]]:2", five{0, 1, 3}, five{0, 1, 4}, five{0, 1, 5})
	tells(t, "within 9 rate 9 w:0 then x:1 times 2 if x.a > w.a then y:2 if y.a = x.a - w.a", "[]:1 []:1 []:2 []:4 [[0 2 3 4]]:4 []:4",
		five{0, 0, 5}, five{0, 1, 5}, five{0, 1, 6}, five{0, 1, 7}, five{0, 2, 2}, five{0, 2, 1})
	tells(t, "within 9 rate 9 x:1 times 2 then y:2 times 2 if y.a = x.a then z:3 if z.a = y.b", "[]:1 []:3 []:4 []:6 [[0 1 2 3 4]]:6 []:6",
		five{0, 1, 5}, five{0, 1, 6}, five{0, 2, 6, 1}, five{0, 2, 6, 2}, five{0, 3, 2}, five{0, 3, 1})
}

func TestP5Guards(t *testing.T) {
	guard := "within 9 rate 9 x:1 then not 2 then y:3"
	tells(t, guard, "[]:1 [[0 1]]:1", five{0, 1}, five{0, 3})
	tells(t, guard, "[]:1 []:0 []:0", five{0, 1}, five{0, 2}, five{0, 3})
	tells(t, guard, "[]:0 []:1 [[1 2]]:1 []:0 []:0", five{0, 2}, five{0, 1}, five{0, 3}, five{0, 2}, five{0, 3})
	tells(t, guard, "[]:1 []:1 [[0 2]]:1", five{0, 1}, five{0, 4}, five{0, 3})
	// the two events themselves do not stand between
	tells(t, "within 9 rate 9 x:1 then not 1 then y:1", "[]:1 [[0 1]]:1 [[1 2]]:1", five{0, 1}, five{0, 1}, five{0, 1})
	tells(t, "within 9 rate 9 x:1 then not 2 then y:2", "[]:1 [[0 1]]:0 []:0", five{0, 1}, five{0, 2}, five{0, 2})
	// a guard stands between its two steps, not between others
	tells(t, "within 9 rate 9 x:1 then y:2 then not 4 then z:3", "[]:1 []:1 []:2 [[0 2 3]]:2 []:1 []:1",
		five{0, 1}, five{0, 4}, five{0, 2}, five{0, 3}, five{0, 4}, five{0, 3})
	tells(t, "within 9 rate 9 x:1 then not 4 then y:2 then z:3", "[]:1 []:2 []:1 [[0 1 3]]:1 []:1",
		five{0, 1}, five{0, 2}, five{0, 4}, five{0, 3}, five{0, 2})
	// of several guards each stands for itself
	for kind, want := range map[int]string{4: "[]:1 []:0 []:0", 5: "[]:1 []:0 []:0", 6: "[]:1 []:1 [[0 2]]:1"} {
		tells(t, "within 9 rate 9 x:1 then not 4 then not 5 then y:2", want, five{0, 1}, five{0, kind}, five{0, 2})
	}
	// of a step with times a guard stands ahead of the first, and behind the last
	tells(t, "within 9 rate 9 x:1 times 2 then not 4 then y:2", "[]:1 []:1 []:3 [[0 2 3]]:3 []:2 []:2",
		five{0, 1}, five{0, 4}, five{0, 1}, five{0, 2}, five{0, 4}, five{0, 2})
	tells(t, "within 9 rate 9 x:1 then not 4 then y:2 times 2", "[]:1 []:2 []:1 [[0 1 3]]:1", five{0, 1}, five{0, 2}, five{0, 4}, five{0, 2})
}

func TestP5GuardConditions(t *testing.T) {
	tells(t, "within 9 rate 9 x:1 then not 2 if it.a > x.a then y:3", "[]:1 []:1 [[0 2]]:1 []:0 []:0 []:1 [[5 6]]:1",
		five{0, 1, 5}, five{0, 2, 5}, five{0, 3}, five{0, 2, 6}, five{0, 3}, five{0, 1}, five{0, 3})
	// both the kind and the condition
	tells(t, "within 9 rate 9 x:1 then not 2 if it.a = 1 then y:3", "[]:1 []:1 []:1 []:0", five{0, 1}, five{0, 4, 1}, five{0, 2, 0}, five{0, 2, 1})
	// it stops the runs for which it is true, no other
	tells(t, "within 9 rate 9 x:1 then not 2 if it.a = x.a then y:3", "[]:1 []:2 []:1 [[1 3]]:1", five{0, 1, 5}, five{0, 1, 6}, five{0, 2, 5}, five{0, 3})
	// of a step with times a name is the last one
	tells(t, "within 9 rate 9 x:1 times 2 then not 2 if it.a = x.a then y:3 if y.a = x.a", "[]:1 []:3 []:3 []:2 []:2",
		five{0, 1, 5}, five{0, 1, 6}, five{0, 2, 5}, five{0, 2, 6}, five{0, 3, 6})
	tells(t, "within 9 rate 9 x:1 then y:2 then not 4 if it.a = x.a + y.a then z:3", "[]:1 []:2 []:2 []:1 []:1",
		five{0, 1, 5}, five{0, 2, 6}, five{0, 4, 10}, five{0, 4, 11}, five{0, 3})
	// what is divided by 0 forbids nothing
	tells(t, "within 9 rate 9 x:1 then not 2 if 1 / it.a != 5 then y:3", "[]:1 []:1 [[0 2]]:1 []:0", five{0, 1}, five{0, 2, 0}, five{0, 3}, five{0, 2, 1})
	// the time is a field too
	tells(t, "within 9 rate 9 x:1 then not 2 if it.t - x.t >= 2 then y:3", "[]:1 []:1 []:0", five{0, 1}, five{1, 2}, five{2, 2})
	// one guard in several paths: names are those of each path
	tells(t, "within 9 rate 9 (x:1|w:5 then x:6) then not 2 if it.a = x.a then y:3", "[]:1 []:2 []:3 []:2 [[0 4]]:2 []:1",
		five{0, 1, 7}, five{0, 5, 8}, five{0, 6, 9}, five{0, 2, 9}, five{0, 3}, five{0, 2, 7})
}
