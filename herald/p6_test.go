package herald_test

import (
	"testing"

	"herald/api"
	"herald/herald"
)

func looks(t *testing.T, x *herald.Engine, want api.View) {
	t.Helper()
	if v := x.Look(); v != want {
		t.Errorf("P6: %+v, want %+v", v, want)
	}
}

func TestP6AheadOfAllEvents(t *testing.T) {
	looks(t, engine(t, "within 10 rate 5 x:1"), api.View{})
	looks(t, engine(t, "within 10 rate 5 x:1 then y:2 then z:3"), api.View{Bound: 15})
}

func TestP6InBetween(t *testing.T) {
	x := engine(t, "within 10 rate 5 x:1 then y:2 then not 4 then z:3")
	for _, c := range []struct {
		ev   five
		runs int
	}{
		{five{0, 9}, 0}, {five{0, 2}, 0}, {five{0, 1}, 1}, {five{1, 2}, 2}, {five{2, 3}, 2},
		{five{10, 3}, 0}, {five{20, 1}, 1}, {five{20, 1}, 2}, {five{20, 2}, 4}, {five{21, 2}, 6}, {five{29, 4}, 2}, {five{30, 4}, 0},
	} {
		fed(t, x, c.ev)
		if v := x.Look(); v.Runs != c.runs || v.Bound != 15 || v.Failed != api.OK {
			t.Errorf("P6: behind %v: %+v, want %d runs", c.ev, v, c.runs)
		}
	}
	if v := x.Look(); v.Events != 12 {
		t.Errorf("P6: %d events, want 12", v.Events)
	}
}

// A run of more than one path is counted with each.
func TestP6RunsOfEachPath(t *testing.T) {
	x := engine(t, "within 10 rate 5 (x:1|x:1|y:1) then (u:2|v:2)")
	fed(t, x, five{0, 1})
	looks(t, x, api.View{Events: 1, Runs: 6, Bound: 30})
	fed(t, x, five{0, 1})
	looks(t, x, api.View{Events: 2, Runs: 12, Bound: 30})
	fed(t, x, five{10, 2})
	looks(t, x, api.View{Events: 3, Runs: 0, Bound: 30})
}

// A run need not have a chance: kinds, conditions and guards up to the last event tell, nothing else.
func TestP6RunsThatCannotBecomeMatches(t *testing.T) {
	never := engine(t, "within 10 rate 5 x:1 then y:2 if 1 = 2")
	fed(t, never, five{0, 1})
	looks(t, never, api.View{Events: 1, Runs: 1, Bound: 5})
	full := engine(t, "within 10 rate 2 x:1 times 3") // of three in a window one is refused
	fed(t, full, five{0, 1}, five{0, 1})
	looks(t, full, api.View{Events: 2, Runs: 3, Bound: 3})
}

func TestP6BehindAFailure(t *testing.T) {
	x := engine(t, "within 10 rate 3 x:1 then y:1")
	fed(t, x, five{0, 1}, five{9, 1}, five{9, 1})
	want := api.View{Events: 3, Runs: 3, Bound: 3, Failed: api.ErrRate}
	x.Feed(five{9, 1}.event())
	looks(t, x, want)
	for _, time := range []int{0, 9, 10, 100} {
		x.Feed(five{time, 1}.event())
		looks(t, x, want)
	}
	// the runs are those at the last event that was taken
	late := engine(t, "within 10 rate 3 x:1 then y:1")
	fed(t, late, five{5, 1})
	late.Feed(five{4, 1}.event())
	late.Feed(five{400, 1}.event())
	looks(t, late, api.View{Events: 1, Runs: 1, Bound: 3, Failed: api.ErrTime})
}
