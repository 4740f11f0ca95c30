package herald_test

import (
	"math/rand"
	"strings"
	"testing"

	"herald/api"
	"herald/herald"
)

const long = "within 1000000 rate 12 (x:1 times 2 if x.a = 1 or it.t < 2 and -x.b >= (3 - it.c) * 4 / 5 | y:99) then not 0 if it.a != 7 then z:3 if z.a <= 1 + 2 and 3 > 2"

// whole: the answers to a text are whole ones, whatever the text is.
func whole(t *testing.T, text string) {
	t.Helper()
	x, at, e := herald.Compile(text)
	s, printAt, printE := herald.Print(text)
	if printAt != at || printE != e {
		t.Errorf("P4: %q: Compile tells %d, %d, Print %d, %d", text, at, e, printAt, printE)
	}
	if (x == nil) != (e != api.OK) || (s == "") != (e != api.OK) {
		t.Errorf("P1: %q: error %d beside an engine (%v) or text %q", text, e, x != nil, s)
	}
	if at < 0 || at > len(text) || e == api.OK && at != 0 {
		t.Errorf("P3: %q: error %d at %d", text, e, at)
	}
	if e < api.OK || e > api.ErrBig {
		t.Errorf("P3: %q: error %d is none of Compile's", text, e)
	}
}

func TestP1EveryPieceOfAPattern(t *testing.T) {
	ends(t, func() {
		for from := range len(long) {
			for to := from; to <= len(long); to++ {
				whole(t, long[from:to])
			}
			for b := range 256 {
				whole(t, long[:from]+string([]byte{byte(b)})+long[from+1:])
			}
		}
	})
}

func TestP1AnyBytes(t *testing.T) {
	random := rand.New(rand.NewSource(1))
	ends(t, func() {
		for b := range 256 {
			whole(t, string([]byte{byte(b)}))
			for c := range 256 {
				whole(t, string([]byte{byte(b), byte(c)}))
			}
		}
		for range 20000 {
			text := make([]byte, random.Intn(40))
			random.Read(text)
			whole(t, string(text))
		}
	})
}

func TestP1DeepWideAndLong(t *testing.T) {
	start := "within 1 rate 1 "
	ends(t, func() {
		for _, piece := range []string{"(", ")", "-", "|", "((", "(-", "x:1 then ", "(x:1|", "not 1 then ", "x", "9", " ", "\x00", "\xff", "é"} {
			for n := range 700 {
				whole(t, strings.Repeat(piece, n))
				whole(t, start+strings.Repeat(piece, n))
				whole(t, start+"x:1 if "+strings.Repeat(piece, n)+"1 = 1")
			}
			whole(t, strings.Repeat(piece, 1<<20))
		}
	})
}

func TestP1MorePathsThanCanBeMade(t *testing.T) {
	ends(t, func() {
		for n := 5; n <= 41; n++ {
			refused(t, api.ErrBig, "within 1 rate 1"+strings.Repeat("(x:1|y:1)then", n)+" z:1")
		}
		for n := 3; n <= 27; n++ {
			refused(t, api.ErrBig, "within 1 rate 1"+strings.Repeat("(x:1|y:1|u:1|v:1)then", n)+" z:1")
		}
	})
}

// Of two errors in one text the one that is named first is told, whichever stands first.
func TestP1FirstNamedError(t *testing.T) {
	deep := "---------1 = 1"
	refused(t, api.ErrText,
		"within 5 rate 5 x:1 if "+deep+" @= 2",
		"within 0 rate 13 x:100@;",
		"within 1 rate 1 x:1 times 4 then y:1 times 4 then z:1 @z",
		"within 1 rate 1 not 1 then x:1@)",
		"within 1 rate 1 x:1 then x:1 if y.a = 1 then @then",
		"within 1 rate 12 (x:1 times 4|x:2 times 4) then y:1 times 4@|")
	refused(t, api.ErrDeep,
		"within 0 rate 0 x:1 if --------@-1 = 1",
		"within 5 rate 5 x:1 if --------@-1 = 1 then y:100",
		"within 5 rate 5 x:1 times 4 then y:1 times 4 then z:1 if --------@-1 = 1",
		"within 5 rate 5 not 1 then x:1 if --------@-1 = 1",
		"within 5 rate 5 x:1 then x:1 if z.a = --------@-1",
		"within 5 rate 12 (x:1 times 4|x:2 times 4) then y:1 times 4 if --------@-1 = 1")
	refused(t, api.ErrNumber,
		"within 5 rate 5 x:1 times 4 then y:1 times 4 then z:@100",
		"within 5 rate 5 (a:1|b:1) then (c:1|d:1) then (e:1|f:1) then (g:1|h:1) then (i:1|j:@100)",
		"within 5 rate 5 not 1 then x:@100",
		"within 5 rate 5 x:1 then x:@100",
		"within 5 rate 5 x:1 if z.a = 1 then y:1 times @5",
		"within 5 rate @13 (x:1 times 4|x:2 times 4) then y:1 times 4")
	refused(t, api.ErrBig,
		"within 5 rate 5 not 1 then x:1 times 4 then y:1 times 4 then z:1",
		"within 5 rate 5 (a:1|b:1|not 1) then (c:1|d:1) then (e:1|f:1) then (g:1|h:1)",
		"within 5 rate 5 x:1 times 4 then x:1 times 4 then x:1",
		"within 5 rate 5 x:1 times 4 if q.a = 1 then y:1 times 4 then z:1")
	refused(t, api.ErrText,
		"within 5 rate 5 x:1 then x:1 then @not 1",
		"within 5 rate 5 x:1 if y.a = 1 then @not 1",
		"within 5 rate 12 (x:1 times 4|x:2 times 4) then y:1 times 4 then @not 1")
	refused(t, api.ErrTwice, "within 5 rate 12 (x:1 times 4|x:2 times 4) then y:1 times 3 then @x:1")
	refused(t, api.ErrName, "within 5 rate 12 (x:1 times 4|x:2 times 4) then y:1 times 4 if @z.a = 1")
}
