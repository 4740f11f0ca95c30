package herald_test

import (
	"slices"
	"testing"

	"herald/api"
	"herald/herald"
)

type answer struct {
	view    api.View
	text    string
	at      int
	e       api.Errno
	printAt int
	printE  api.Errno
}

func ask(text string) answer {
	var a answer
	var x *herald.Engine
	if x, a.at, a.e = herald.Compile(text); x != nil {
		a.view = x.Look()
	}
	a.text, a.printAt, a.printE = herald.Print(text)
	return a
}

func TestP2SameTextSameAnswer(t *testing.T) {
	texts := []string{
		"within 10 rate 5 x:1 then y:2 if y.a = x.a",
		"within 10 rate 7 x:1 then y:2 if y.a = x.a",
		"within 10 rate 5 y:2 if y.a = x.a",
		"within 10 rate 5 x:1 then x:2",
		"within 10 rate 5 x:1 if --------1 = --------1",
		"within 10 rate 5 x:1 if ---------1 = 1",
		"within 10 rate 5 x:1 if (((((((((",
		"within 0 rate 5 x:1",
		"within 10 rate 5 x:1 times 4 then y:1 times 4 then z:1",
		"within 10 rate 5 not 1 then x:1",
		"within 10 rate 12 (x:1 times 4|x:2 times 4) then y:1 times 4",
		"within 10 rate 12 x:1 times 4 then y:1 times 4",
		"", ";", long,
	}
	var first []answer
	for _, text := range texts {
		first = append(first, ask(text))
	}
	for range 3 {
		for i, text := range slices.Backward(texts) {
			for range 2 {
				if a := ask(text); a != first[i] {
					t.Errorf("P2: %q: %+v, and ahead of that %+v", text, a, first[i])
				}
			}
		}
	}
}

func TestP2EnginesApart(t *testing.T) {
	texts := []string{"within 10 rate 5 x:1 then y:2", "within 10 rate 3 x:1 times 3", "within 10 rate 5 x:1 then y:2"}
	bounds := []int{5, 6, 5}
	var engines []*herald.Engine
	for _, text := range texts {
		x, _, _ := herald.Compile(text)
		if x == nil {
			t.Fatalf("no engine of %q", text)
		}
		engines = append(engines, x)
	}
	if engines[0] == engines[2] {
		t.Error("P2: one engine is given twice")
	}
	for n := range 20 { // more than the rate, and times that fall
		engines[0].Feed(api.Event{Time: 20 - n, Kind: 1})
	}
	herald.Compile("within 1 rate 1 x:1")
	herald.Print("within 1 rate 1 x:1;")
	for k := 1; k < len(engines); k++ {
		for range 2 {
			if v := engines[k].Look(); v != (api.View{Bound: bounds[k]}) {
				t.Errorf("P2: engine %d: %+v, though only engine 0 was fed", k, v)
			}
		}
	}
	if v := engines[0].Look(); v.Bound != 5 {
		t.Errorf("P2: the bound is %d, want 5", v.Bound)
	}
}
