package herald_test

import (
	"math/rand"
	"strings"
	"testing"

	"herald/api"
)

// Where all steps want the same, and nothing forbids it, there are as many runs
// as the bound says as soon as a window is full, and never more.
func TestP7BoundIsReached(t *testing.T) {
	pair, quint, sext := "x:1 times 2", "x:1 times 4 then y:1", "x:1 times 4 then y:1 times 2"
	for _, c := range []struct {
		rate  int
		text  string
		bound int
	}{
		{1, "within 60 rate 1 x:1 then y:1", 1},
		{1, "within 60 rate 1 x:1", 0},
		{2, "within 60 rate 2 x:1 times 4", 3},
		{5, "within 60 rate 5 x:1 then y:1 then z:1", 15},
		{5, "within 60 rate 5 (x:1|x:1|x:1 then y:1) then (z:1|u:1)", 50},
		{12, "within 60 rate 12 x:1 times 4 then y:1 times 4", 3301},
		{12, "within 60 rate 12 (" + strings.Join([]string{pair, pair, pair, quint, quint, quint, sext}, "|") + ")", 4000},
	} {
		for _, gap := range []int{0, 60 / c.rate} {
			x := engine(t, c.text)
			most := 0
			for n := range 40 {
				time := n * gap
				if gap == 0 {
					time = n / c.rate * 60
				}
				if _, e := x.Feed(api.Event{Time: time, Kind: 1}); e != api.OK {
					t.Fatalf("P7: %q: event %d: error %d, though no window has too many", c.text, n, e)
				}
				v := x.Look()
				most = max(most, v.Runs)
				if v.Runs > c.bound || v.Bound != c.bound || gap > 0 && n >= c.rate && v.Runs != c.bound {
					t.Errorf("P7: %q: event %d: %+v, want %d", c.text, n, v, c.bound)
				}
			}
			if most != c.bound {
				t.Errorf("P7: %q: %d runs at most, and the bound is %d", c.text, most, c.bound)
			}
		}
	}
}

// Streams made by chance, in which each event comes as early as the rate lets it, or later.
func TestP7NoFailureWithinTheRate(t *testing.T) {
	random := rand.New(rand.NewSource(5))
	for _, c := range []struct {
		text         string
		window, rate int
	}{
		{"within 7 rate 4 x:1 then y:1 times 2", 7, 4}, {"within 1 rate 12 x:1 times 4", 1, 12}, {"within 1000000 rate 5 (x:1|x:2) then not 2 then y:1", 1000000, 5}, {"within 3 rate 1 x:1 then y:1", 3, 1},
	} {
		x := engine(t, c.text)
		bound := x.Look().Bound
		var times []int
		for n := range 3000 {
			time := -1000
			if n > 0 {
				time = times[n-1] + random.Intn(3)*random.Intn(c.window+1)
			}
			if n >= c.rate {
				time = max(time, times[n-c.rate]+c.window)
			}
			times = append(times, time)
			if _, e := x.Feed(api.Event{Time: time, Kind: 1 + random.Intn(5)/4}); e != api.OK {
				t.Fatalf("P7: %q: event %d: error %d, though no window has too many", c.text, n, e)
			}
			if v := x.Look(); v.Runs > bound {
				t.Fatalf("P7: %q: event %d: %d runs, and the bound is %d", c.text, n, v.Runs, bound)
			}
		}
	}
}
