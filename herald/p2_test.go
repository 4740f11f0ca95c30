package herald_test

import (
	"fmt"
	"runtime"
	"slices"
	"testing"

	"herald/api"
	"herald/herald"
)

type answer struct {
	view    api.View
	text    string
	at      int
	e       api.Errno
	printAt int
	printE  api.Errno
}

func ask(text string) answer {
	var a answer
	var x *herald.Engine
	if x, a.at, a.e = herald.Compile(text); x != nil {
		a.view = x.Look()
	}
	a.text, a.printAt, a.printE = herald.Print(text)
	return a
}

func TestP2SameTextSameAnswer(t *testing.T) {
	texts := []string{
		"within 10 rate 5 x:1 then y:2 if y.a = x.a",
		"within 10 rate 7 x:1 then y:2 if y.a = x.a",
		"within 10 rate 5 y:2 if y.a = x.a",
		"within 10 rate 5 x:1 then x:2",
		"within 10 rate 5 x:1 if --------1 = --------1",
		"within 10 rate 5 x:1 if ---------1 = 1",
		"within 10 rate 5 x:1 if (((((((((",
		"within 0 rate 5 x:1",
		"within 10 rate 5 x:1 times 4 then y:1 times 4 then z:1",
		"within 10 rate 5 not 1 then x:1",
		"within 10 rate 12 (x:1 times 4|x:2 times 4) then y:1 times 4",
		"within 10 rate 12 x:1 times 4 then y:1 times 4",
		"", ";", long,
	}
	var first []answer
	for _, text := range texts {
		first = append(first, ask(text))
	}
	for range 3 {
		for i, text := range slices.Backward(texts) {
			for range 2 {
				if a := ask(text); a != first[i] {
					t.Errorf("P2: %q: %+v, and ahead of that %+v", text, a, first[i])
				}
			}
		}
	}
}

func TestP2EnginesApart(t *testing.T) {
	texts := []string{"within 10 rate 5 x:1 then y:2", "within 10 rate 3 x:1 times 3", "within 10 rate 5 x:1 then y:2"}
	bounds := []int{5, 6, 5}
	var engines []*herald.Engine
	for _, text := range texts {
		x, _, _ := herald.Compile(text)
		if x == nil {
			t.Fatalf("no engine of %q", text)
		}
		engines = append(engines, x)
	}
	if engines[0] == engines[2] {
		t.Error("P2: one engine is given twice")
	}
	fed(t, engines[0], five{0, 1}, five{1, 2}, five{2, 1})
	for n := range 20 { // more than the rate, and times that fall
		engines[0].Feed(api.Event{Time: 20 - n, Kind: 1})
	}
	herald.Compile("within 1 rate 1 x:1")
	herald.Print("within 1 rate 1 x:1;")
	for k := 1; k < len(engines); k++ {
		for range 2 {
			if v := engines[k].Look(); v != (api.View{Bound: bounds[k]}) {
				t.Errorf("P2: engine %d: %+v, though only engine 0 was fed", k, v)
			}
		}
	}
	if v := engines[0].Look(); v != (api.View{Events: 4, Runs: 1, Bound: 5, Failed: api.ErrTime}) {
		t.Errorf("P2: engine 0: %+v", v)
	}
	want := "[]:1 [[0 1]]:1"
	for _, k := range []int{2, 1} { // whose number an event has, each engine counts for itself
		if k == 1 {
			want = "[]:1 []:1"
		}
		if got := fed(t, engines[k], five{-9, 1}, five{-8, 2}); got != want {
			t.Errorf("P2: engine %d: %s, want %s", k, got, want)
		}
	}
}

// Engines of one text, fed with different events by turns, tell what each would tell alone.
func TestP2EnginesByTurns(t *testing.T) {
	text := "within 5 rate 12 (x:1|x:2) then not 3 if it.a = x.a then y:2 if y.a = x.a"
	stream := func(k, n int) five { return five{n / 2, 1 + (n+k)%3, n * k % 3} }
	var alone, turns [3]string
	for k := range alone {
		x := engine(t, text)
		for n := range 60 {
			alone[k] += fed(t, x, stream(k, n)) + " "
		}
	}
	engines := []*herald.Engine{engine(t, text), engine(t, text), engine(t, text)}
	for n := range 60 {
		for k, x := range engines {
			turns[k] += fed(t, x, stream(k, n)) + " "
		}
	}
	if alone != turns || alone[0] == alone[1] || alone[1] == alone[2] {
		t.Errorf("P2: alone %q, by turns %q", alone, turns)
	}
}

// scribble writes into lists, and behind their ends, as far as their room goes.
func scribble(lists [][]int) {
	for _, list := range lists {
		list = list[:cap(list)]
		for i := range list {
			list[i] = -99
		}
	}
	lists = lists[:cap(lists)]
	for i := range lists {
		lists[i] = []int{-77}
	}
}

// Of two engines that are fed the same, one caller writes into all that comes out.
func TestP2ListsAreTheCallers(t *testing.T) {
	for _, text := range []string{
		"within 9 rate 12 x:1", "within 9 rate 12 x:1 then y:1", "within 9 rate 12 x:1 times 3", "within 9 rate 12 (x:1|x:1|x:1 then z:1) then y:1", "within 9 rate 12 x:1 times 2 then not 2 if it.a = x.a then y:1 times 3", "within 9 rate 12 x:1 times 4 then y:1 times 4",
	} {
		quiet, loud := engine(t, text), engine(t, text)
		var kept [][][]int
		var told []string
		for n := range 60 {
			ev := api.Event{Time: n, Kind: 1 + n%7/6, A: n % 2}
			want, _ := quiet.Feed(ev)
			kept = append(kept, want)
			told = append(told, fmt.Sprint(want))
			got, e := loud.Feed(ev)
			if e != api.OK || fmt.Sprint(got) != told[n] || loud.Look() != quiet.Look() {
				t.Fatalf("P2: %q: event %d: %v, %d, want %s", text, n, got, e, told[n])
			}
			scribble(got)
		}
		for n, lists := range kept {
			if fmt.Sprint(lists) != told[n] {
				t.Errorf("P2: %q: what was told of event %d has become %v, was %s", text, n, lists, told[n])
			}
		}
	}
}

// No two lists of one answer share memory.
func TestP2ListsOfOneAnswerApart(t *testing.T) {
	x := engine(t, "within 9 rate 12 (x:1 times 3|y:1 times 2|z:1 times 3)")
	var lists [][]int
	for range 12 {
		lists, _ = x.Feed(api.Event{Kind: 1})
	}
	if len(lists) != 11*10/2+11 {
		t.Fatalf("P5: %d lists", len(lists))
	}
	for i := range lists {
		whole := lists[i][:cap(lists[i])]
		for k := range whole {
			whole[k] = -i
		}
	}
	for i, list := range lists {
		if slices.ContainsFunc(list[:cap(list)], func(n int) bool { return n != -i }) {
			t.Errorf("P2: list %d has become %v", i, list)
		}
	}
}

// What is asked changes nothing.
func TestP2LookChangesNothing(t *testing.T) {
	x := engine(t, "within 9 rate 12 x:1 then y:2")
	fed(t, x, five{0, 1}, five{5, 1})
	for range 3 {
		if v := x.Look(); v != (api.View{Events: 2, Runs: 2, Bound: 12}) {
			t.Errorf("P2: %+v", v)
		}
	}
	if got := fed(t, x, five{5, 2}); got != "[[0 2] [1 2]]:2" {
		t.Errorf("P2: %s", got)
	}
}

// What is kept does not grow with the events that were fed.
func TestP2OldEventsAreForgotten(t *testing.T) {
	x := engine(t, "within 100 rate 12 (x:1|x:1 then y:2) then z:3 times 2")
	used := func(n int) uint64 {
		for k := range 100000 {
			if _, e := x.Feed(api.Event{Time: n*1000000 + k*10, Kind: 1 + k%3}); e != api.OK {
				t.Fatalf("P7: event %d: %d", k, e)
			}
		}
		runtime.GC()
		var m runtime.MemStats
		runtime.ReadMemStats(&m)
		return m.HeapAlloc
	}
	first := used(0)
	if second := used(1); second > first+1<<18 {
		t.Errorf("what is kept has grown from %d to %d bytes", first, second)
	}
	runtime.KeepAlive(x)
}
