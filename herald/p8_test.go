package herald_test

import (
	"testing"

	"herald/api"
	"herald/herald"
)

// What is printed is a pattern, is printed the same, and its engine tells the same.
func TestP8PrintedPatterns(t *testing.T) {
	for _, text := range []string{
		"within 010rate 05 x:01then y :2if y.a=x . a",
		"within 9 rate 9(x:1|x:2 times 02)then not 3if it.a>x.a then y:1 if-y.a/(x.b-2)<=-3*x.c or y.t-x.t>=02",
		"within 9\nrate 9 x:1 times 2 if--x.a!=1and x.b<3 then y:2 if y.a-1-1=x.a/2/2 or y.a=0",
		long,
	} {
		printed, _, e := herald.Print(text)
		if e != api.OK {
			t.Fatalf("P8: %q: error %d", text, e)
		}
		if again, at, e := herald.Print(printed); again != printed || at != 0 || e != api.OK {
			t.Errorf("P8: %q is printed as %q, %d, %d", printed, again, at, e)
		}
		first, second := engine(t, text), engine(t, printed)
		for n := range 200 {
			ev := five{n, 1 + n%3, n%5 - 1, n % 4, n % 2}
			if n > 100 {
				ev[0] = 100 // in the end there are too many
			}
			matches, e := first.Feed(ev.event())
			again, againE := second.Feed(ev.event())
			if e != againE || !sameLists(matches, again) || first.Look() != second.Look() {
				t.Fatalf("P8: %q: event %d: %v, %d, %+v, printed %v, %d, %+v", text, n, matches, e, first.Look(), again, againE, second.Look())
			}
		}
		if first.Look().Failed != api.ErrRate {
			t.Errorf("P8: %q: %+v, want a failure", text, first.Look())
		}
	}
}
