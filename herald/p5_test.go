package herald_test

import (
	"math"
	"testing"

	"herald/api"
)

func TestP5Example(t *testing.T) {
	x := engine(t, "within 10 rate 5 x:1 then y:2 if y.a = x.a")
	want := "[]:1 []:2 [[0 2]]:2 [[0 3]]:2 []:1"
	if got := fed(t, x, five{0, 1, 7}, five{1, 1, 8}, five{2, 2, 7}, five{3, 2, 7}, five{10, 2, 7}); got != want {
		t.Errorf("P5: %s, want %s", got, want)
	}
	if got := fed(t, x, five{10, 3}); got != "[]:1" {
		t.Errorf("P5: one event more: %s", got)
	}
	fails(t, x, api.ErrRate, five{10, 2, 7})
}

func TestP5TimeThatFalls(t *testing.T) {
	x := engine(t, "within 10 rate 5 x:1 then y:2")
	fed(t, x, five{5, 1}, five{5, 1}, five{6, 1})
	fails(t, x, api.ErrTime, five{5, 2})
	for _, ev := range []five{{6, 2}, {7, 2}, {5, 2}, {100, 2}, {-1, 2}, {math.MaxInt, 1}, {math.MinInt, 1}} {
		fails(t, x, api.ErrTime, ev)
	}
	for _, first := range []int{math.MinInt, -1, 0, 1, math.MaxInt} {
		x := engine(t, "within 10 rate 5 x:1")
		fed(t, x, five{first, 1}, five{first, 1})
		if first > math.MinInt {
			fails(t, x, api.ErrTime, five{first - 1, 1})
		}
	}
	far := engine(t, "within 10 rate 5 x:1")
	fed(t, far, five{math.MaxInt, 1})
	fails(t, far, api.ErrTime, five{math.MinInt, 1})
}

// An event is in the window if its time is later than the new one's less the window.
func TestP5Rate(t *testing.T) {
	for _, start := range []int{math.MinInt, -1000000, -9, 0, 7, math.MaxInt - 10} {
		x := engine(t, "within 10 rate 3 x:1 then y:1")
		fed(t, x, five{start, 1}, five{start, 0}, five{start + 1, 0}, five{start + 10, 0})
		fed(t, x, five{start + 10, 0})
		fails(t, x, api.ErrRate, five{start + 10, 0})
		fails(t, x, api.ErrRate, five{math.MaxInt, 0})
		fails(t, x, api.ErrRate, five{math.MinInt, 0})
	}
	edge := engine(t, "within 10 rate 3 x:1 then y:1")
	fed(t, edge, five{0, 0}, five{0, 0}, five{0, 0})
	fails(t, edge, api.ErrRate, five{9, 0})
	one := engine(t, "within 1 rate 1 x:1")
	fed(t, one, five{0, 1}, five{1, 1}, five{2, 1}, five{100, 1})
	fails(t, one, api.ErrRate, five{100, 1})
	wide := engine(t, "within 1000000 rate 12 x:1")
	for n := range 12 {
		fed(t, wide, five{n, 1})
	}
	fed(t, wide, five{1000000, 1}, five{1000001, 1}, five{1000011, 1}, five{1000011, 1})
	for range 8 {
		fed(t, wide, five{1000011, 1})
	}
	fails(t, wide, api.ErrRate, five{1000011, 1})
}

// All events count for the rate, those too that no step asks for.
func TestP5RateCountsEveryEvent(t *testing.T) {
	x := engine(t, "within 10 rate 2 x:1 if x.a = 1")
	fed(t, x, five{0, 50}, five{0, -3})
	fails(t, x, api.ErrRate, five{0, 77})
}

// One that was refused counts for nothing: neither for the times nor for the numbers.
func TestP5FirstErrorStays(t *testing.T) {
	late := engine(t, "within 10 rate 1 x:1 then y:2")
	fed(t, late, five{0, 1})
	fails(t, late, api.ErrRate, five{9, 2})
	fails(t, late, api.ErrRate, five{-5, 2})
	fails(t, late, api.ErrRate, five{10, 2})
	both := engine(t, "within 10 rate 1 x:1 then y:2") // a time that falls, and too many events too
	fed(t, both, five{5, 1})
	fails(t, both, api.ErrTime, five{4, 2})
	fails(t, both, api.ErrTime, five{5, 2})
}

func TestP5EachMatchOnceInOrder(t *testing.T) {
	tells(t, "within 9 rate 9 x:1 then y:1 then z:1", "[]:1 []:3 [[0 1 2]]:6 [[0 1 3] [0 2 3] [1 2 3]]:10",
		five{0, 1}, five{0, 1}, five{0, 1}, five{0, 1})
	tells(t, "within 9 rate 9 (x:1|x:1|x:1) then y:2", "[]:3 [[0 1]]:3", five{0, 1}, five{0, 2})
	tells(t, "within 9 rate 9 (x:1|y:1)", "[[0]]:0 [[1]]:0", five{0, 1}, five{0, 1})
	tells(t, "within 9 rate 9 (z:1|x:1 then y:1 then z:1|y:1 then z:1)", "[[0]]:2 [[0 1] [1]]:5 [[0 1 2] [0 2] [1 2] [2]]:9",
		five{0, 1}, five{0, 1}, five{0, 1})
	tells(t, "within 9 rate 12 x:1 then y:2", "[]:1 []:2 []:3 []:4 []:5 []:6 []:7 []:8 []:9 []:10 []:11 [[0 11] [1 11] [2 11] [3 11] [4 11] [5 11] [6 11] [7 11] [8 11] [9 11] [10 11]]:11",
		five{0, 1}, five{0, 1}, five{0, 1}, five{0, 1}, five{0, 1}, five{0, 1}, five{0, 1}, five{0, 1}, five{0, 1}, five{0, 1}, five{0, 1}, five{0, 2})
}

func TestP5OneStep(t *testing.T) {
	tells(t, "within 1 rate 1 x:7", "[]:0 [[1]]:0 []:0 [[3]]:0", five{0, 8}, five{1, 7}, five{2, -7}, five{3, 7})
}

func TestP5Window(t *testing.T) {
	for _, start := range []int{math.MinInt, -3, 0, 5, math.MaxInt - 5} {
		tells(t, "within 3 rate 9 x:1 then y:2", "[]:1 [[0 1]]:1 []:0 []:1 [[3 4]]:1",
			five{start, 1}, five{start + 2, 2}, five{start + 3, 2}, five{start + 3, 1}, five{start + 5, 2})
	}
	tells(t, "within 1 rate 9 x:1 then y:2", "[]:1 [[0 1]]:1 []:0", five{0, 1}, five{0, 2}, five{1, 2})
	tells(t, "within 1000000 rate 9 x:1 then y:2", "[]:1 [[0 1]]:1 []:0", five{-1, 1}, five{999998, 2}, five{999999, 2})
	// it is the first and the last that count, not two that stand side by side
	tells(t, "within 5 rate 9 x:1 then y:2 then z:3", "[]:1 []:2 []:1 []:2 [[2 3 4]]:2 []:2",
		five{0, 1}, five{4, 2}, five{5, 1}, five{5, 2}, five{5, 3}, five{6, 4})
	far := "within 1000000 rate 2 x:1 then y:1"
	tells(t, far, "[]:1 [[0 1]]:2 []:1 [[2 3]]:2", five{math.MinInt, 1}, five{math.MinInt, 1}, five{math.MaxInt, 1}, five{math.MaxInt, 1})
	tells(t, far, "[]:1 []:1 []:1", five{math.MinInt, 1}, five{-1, 1}, five{math.MaxInt, 1})
}

// What is too old goes, in whichever order it came into the store: a run that
// has grown comes behind those that began later.
func TestP5OldRunsGo(t *testing.T) {
	tells(t, "within 10 rate 12 (x:1|u:1 then v:1) then y:2 then z:3", "[]:2 []:5 []:9 []:15 []:8 []:3 []:2",
		five{0, 1}, five{1, 1}, five{2, 1}, five{3, 2}, five{10, 9}, five{11, 9}, five{12, 1})
	// also where a guard has taken runs out of the middle
	tells(t, "within 10 rate 12 x:1 then not 3 if it.a = x.a then y:2", "[]:1 []:2 []:3 []:4 []:3 []:2 []:1 [[3 7]]:1 []:0",
		five{0, 1, 5}, five{1, 1, 6}, five{2, 1, 7}, five{3, 1, 8}, five{4, 3, 6}, five{10, 9}, five{12, 9}, five{12, 2}, five{13, 2})
}

func TestP5Kinds(t *testing.T) {
	tells(t, "within 9 rate 9 x:0 then y:99", "[]:0 []:1 []:1 [[1 3]]:1 []:1 []:1 []:1 []:1",
		five{0, 99}, five{0, 0}, five{0, 100}, five{0, 99}, five{0, -99}, five{0, math.MaxInt}, five{0, math.MinInt}, five{0, 99 + 256})
	tells(t, "within 9 rate 9 x:0 then y:99", "[]:0 []:0 []:0", five{0, 1 << 32}, five{0, 256}, five{0, math.MinInt})
}

func TestP5Brackets(t *testing.T) {
	tells(t, "within 9 rate 9 (x:1 then y:2|z:2)", "[]:1 [[0 1] [1]]:1", five{0, 1}, five{0, 2})
	tells(t, "within 9 rate 9 (x:1|x:1 then y:1) then z:1", "[]:2 [[0 1]]:5 [[0 1 2] [0 2] [1 2]]:9", five{0, 1}, five{0, 1}, five{0, 1})
	// a choice's condition and guard are its own
	tells(t, "within 9 rate 9 x:1 then (y:2 if y.a = x.a|not 5 then y:2 if y.a = 9) then z:3", "[]:2 []:1 []:2 [[0 2 3]]:2 []:2 [[0 2 5]]:2",
		five{0, 1, 4}, five{0, 5}, five{0, 2, 4}, five{0, 3}, five{0, 2, 9}, five{0, 3})
	tells(t, "within 9 rate 9 (x:1|y:2) then ((u:3|v:4) then w:5|z:6)", "[]:3 []:6 []:8 []:10 [[0 2 4] [0 3 4] [1 2 4] [1 3 4]]:10 [[0 5] [1 5]]:10",
		five{0, 1}, five{0, 2}, five{0, 3}, five{0, 4}, five{0, 5}, five{0, 6})
	// one name at different steps of different paths
	tells(t, "within 9 rate 9 (x:1|y:2 then x:3) then z:4 if z.a = x.a", "[]:1 []:2 []:3 [[0 3]]:3 [[1 2 4]]:3 []:3",
		five{0, 1, 5}, five{0, 2, 6}, five{0, 3, 7}, five{0, 4, 5}, five{0, 4, 7}, five{0, 4, 6})
}
