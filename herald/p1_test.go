package herald_test

import (
	"math"
	"math/rand"
	"strings"
	"testing"

	"herald/api"
	"herald/herald"
)

const long = "within 1000000 rate 12 (x:1 times 2 if x.a = 1 or it.t < 2 and -x.b >= (3 - it.c) * 4 / 5 | y:99) then not 0 if it.a != 7 then z:3 if z.a <= 1 + 2 and 3 > 2"

// whole: the answers to a text are whole ones, whatever the text is.
func whole(t *testing.T, text string) {
	t.Helper()
	x, at, e := herald.Compile(text)
	s, printAt, printE := herald.Print(text)
	if printAt != at || printE != e {
		t.Errorf("P4: %q: Compile tells %d, %d, Print %d, %d", text, at, e, printAt, printE)
	}
	if (x == nil) != (e != api.OK) || (s == "") != (e != api.OK) {
		t.Errorf("P1: %q: error %d beside an engine (%v) or text %q", text, e, x != nil, s)
	}
	if at < 0 || at > len(text) || e == api.OK && at != 0 {
		t.Errorf("P3: %q: error %d at %d", text, e, at)
	}
	if e < api.OK || e > api.ErrBig {
		t.Errorf("P3: %q: error %d is none of Compile's", text, e)
	}
}

func TestP1EveryPieceOfAPattern(t *testing.T) {
	ends(t, func() {
		for from := range len(long) {
			for to := from; to <= len(long); to++ {
				whole(t, long[from:to])
			}
			for b := range 256 {
				whole(t, long[:from]+string([]byte{byte(b)})+long[from+1:])
			}
		}
	})
}

func TestP1AnyBytes(t *testing.T) {
	random := rand.New(rand.NewSource(1))
	ends(t, func() {
		for b := range 256 {
			whole(t, string([]byte{byte(b)}))
			for c := range 256 {
				whole(t, string([]byte{byte(b), byte(c)}))
			}
		}
		for range 20000 {
			text := make([]byte, random.Intn(40))
			random.Read(text)
			whole(t, string(text))
		}
	})
}

func TestP1DeepWideAndLong(t *testing.T) {
	start := "within 1 rate 1 "
	ends(t, func() {
		for _, piece := range []string{"(", ")", "-", "|", "((", "(-", "x:1 then ", "(x:1|", "not 1 then ", "x", "9", " ", "\x00", "\xff", "é"} {
			for n := range 700 {
				whole(t, strings.Repeat(piece, n))
				whole(t, start+strings.Repeat(piece, n))
				whole(t, start+"x:1 if "+strings.Repeat(piece, n)+"1 = 1")
			}
			whole(t, strings.Repeat(piece, 1<<20))
		}
	})
}

func TestP1MorePathsThanCanBeMade(t *testing.T) {
	ends(t, func() {
		for n := 5; n <= 41; n++ {
			refused(t, api.ErrBig, "within 1 rate 1"+strings.Repeat("(x:1|y:1)then", n)+" z:1")
		}
		for n := 3; n <= 27; n++ {
			refused(t, api.ErrBig, "within 1 rate 1"+strings.Repeat("(x:1|y:1|u:1|v:1)then", n)+" z:1")
		}
	})
}

// Of two errors in one text the one that is named first is told, whichever stands first.
func TestP1FirstNamedError(t *testing.T) {
	deep := "---------1 = 1"
	refused(t, api.ErrText,
		"within 5 rate 5 x:1 if "+deep+" @= 2",
		"within 0 rate 13 x:100@;",
		"within 1 rate 1 x:1 times 4 then y:1 times 4 then z:1 @z",
		"within 1 rate 1 not 1 then x:1@)",
		"within 1 rate 1 x:1 then x:1 if y.a = 1 then @then",
		"within 1 rate 12 (x:1 times 4|x:2 times 4) then y:1 times 4@|")
	refused(t, api.ErrDeep,
		"within 0 rate 0 x:1 if --------@-1 = 1",
		"within 5 rate 5 x:1 if --------@-1 = 1 then y:100",
		"within 5 rate 5 x:1 times 4 then y:1 times 4 then z:1 if --------@-1 = 1",
		"within 5 rate 5 not 1 then x:1 if --------@-1 = 1",
		"within 5 rate 5 x:1 then x:1 if z.a = --------@-1",
		"within 5 rate 12 (x:1 times 4|x:2 times 4) then y:1 times 4 if --------@-1 = 1")
	refused(t, api.ErrNumber,
		"within 5 rate 5 x:1 times 4 then y:1 times 4 then z:@100",
		"within 5 rate 5 (a:1|b:1) then (c:1|d:1) then (e:1|f:1) then (g:1|h:1) then (i:1|j:@100)",
		"within 5 rate 5 not 1 then x:@100",
		"within 5 rate 5 x:1 then x:@100",
		"within 5 rate 5 x:1 if z.a = 1 then y:1 times @5",
		"within 5 rate @13 (x:1 times 4|x:2 times 4) then y:1 times 4")
	refused(t, api.ErrBig,
		"within 5 rate 5 not 1 then x:1 times 4 then y:1 times 4 then z:1",
		"within 5 rate 5 (a:1|b:1|not 1) then (c:1|d:1) then (e:1|f:1) then (g:1|h:1)",
		"within 5 rate 5 x:1 times 4 then x:1 times 4 then x:1",
		"within 5 rate 5 x:1 times 4 if q.a = 1 then y:1 times 4 then z:1")
	refused(t, api.ErrText,
		"within 5 rate 5 x:1 then x:1 then @not 1",
		"within 5 rate 5 x:1 if y.a = 1 then @not 1",
		"within 5 rate 12 (x:1 times 4|x:2 times 4) then y:1 times 4 then @not 1")
	refused(t, api.ErrTwice, "within 5 rate 12 (x:1 times 4|x:2 times 4) then y:1 times 3 then @x:1")
	refused(t, api.ErrName, "within 5 rate 12 (x:1 times 4|x:2 times 4) then y:1 times 4 if @z.a = 1")
}

// wholeFeed: what Feed and Look answer is whole, whatever the event is.
func wholeFeed(t *testing.T, x *herald.Engine, ev api.Event) {
	t.Helper()
	ahead := x.Look()
	matches, e := x.Feed(ev)
	v := x.Look()
	switch {
	case e != api.OK && (len(matches) != 0 || v.Events != ahead.Events || v.Failed != e):
		t.Errorf("P1: %+v: error %d, beside it %v, %+v", ev, e, matches, v)
	case ahead.Failed != api.OK && e != ahead.Failed || e != api.OK && e != api.ErrTime && e != api.ErrRate:
		t.Errorf("P5: %+v: error %d, behind %+v", ev, e, ahead)
	case e == api.OK && (v.Events != ahead.Events+1 || v.Failed != api.OK):
		t.Errorf("P6: %+v: %+v, behind %+v", ev, v, ahead)
	}
}

func TestP1AnyEvent(t *testing.T) {
	numbers := []int{math.MinInt, math.MinInt + 1, -1000000, -1, 0, 1, 2, 1000000, math.MaxInt - 1, math.MaxInt}
	random := rand.New(rand.NewSource(3))
	number := func() int {
		if random.Intn(4) == 0 {
			return int(random.Uint64())
		}
		return numbers[random.Intn(len(numbers))]
	}
	texts := []string{
		long,
		"within 1 rate 1 x:1",
		"within 1000000 rate 12 x:1 times 4 then y:1 times 4",
		"within 1000000 rate 12 x:0 if it.a / it.b / it.c != it.t then y:1 if x.a / y.a = x.a * y.a or - x.b / (y.b - x.b) < 1 then not 2 if it.t / (it.t - x.t) > x.a / -1 then z:1 if z.t / x.t = z.a",
	}
	ends(t, func() {
		for _, text := range texts {
			for range 300 {
				x := engine(t, text)
				for range 20 {
					wholeFeed(t, x, api.Event{Time: number(), Kind: random.Intn(4), A: number(), B: number(), C: number()})
				}
				x = engine(t, text)
				for n := range 20 {
					wholeFeed(t, x, api.Event{Time: numbers[n/2], Kind: random.Intn(4), A: number(), B: number(), C: number()})
				}
				x = engine(t, text)
				for range 20 {
					wholeFeed(t, x, api.Event{Time: number(), Kind: number(), A: number(), B: number(), C: number()})
				}
			}
		}
	})
}

// Every two numbers at their ends, by each sign: nothing panics, be the test true or not.
func TestP1NumbersAtTheirEnds(t *testing.T) {
	numbers := []int{math.MinInt, math.MinInt + 1, -2, -1, 0, 1, 2, math.MaxInt - 1, math.MaxInt}
	ends(t, func() {
		for _, sign := range []string{"+", "-", "*", "/"} {
			x := engine(t, "within 1 rate 12 x:1 if -(x.a "+sign+" x.b) = - x.c and x.c = x.a "+sign+" x.b or x.a < x.b / x.a")
			time := 0
			for _, a := range numbers {
				for _, b := range numbers {
					for _, c := range numbers {
						time++
						wholeFeed(t, x, api.Event{Time: time, Kind: 1, A: a, B: b, C: c})
					}
				}
			}
			if v := x.Look(); v.Events != time || v.Failed != api.OK {
				t.Errorf("P7: behind %d events, one in a window: %+v", time, v)
			}
		}
	})
}

// The most runs, the longest conditions: a call still ends soon.
func TestP1TheMostThereCanBe(t *testing.T) {
	test := " if 1" + strings.Repeat("+1", 230) + " = it.a"
	ends(t, func() {
		x := engine(t, "within 12 rate 12 x:1 times 4 then y:1 times 4"+test)
		for n := range 200 {
			wholeFeed(t, x, api.Event{Time: n, Kind: 1, A: 231})
		}
		if v := x.Look(); v != (api.View{Events: 200, Runs: 3301, Bound: 3301}) {
			t.Errorf("P7: %+v, want 3301 runs", v)
		}
	})
}
