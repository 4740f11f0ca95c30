package herald_test

import (
	"strings"
	"testing"

	"herald/api"
	"herald/herald"
)

func TestP4Layout(t *testing.T) {
	for _, c := range [][2]string{
		{"within 1 rate 1 x:1", "within 1 rate 1 x:1"},
		{"\n within\n\n1 rate 1 x\n:\n1 \n", "within 1 rate 1 x:1"},
		{"within 1rate 1x:1times 2then y:2", "within 1 rate 1 x:1 times 2 then y:2"},
		{"within 007 rate 05 x:00 times 01 if 000000000 = 00100", "within 7 rate 5 x:0 times 1 if 0 = 100"},
		{"within 10 rate 10 x:90 if 100 = 999999999", "within 10 rate 10 x:90 if 100 = 999999999"},
		{"within 1 rate 1 x:1 then not 07 if it . a=x. t then y :2", "within 1 rate 1 x:1 then not 7 if it.a = x.t then y:2"},
		{"within 1 rate 1(x:1|y:1|(z:1|u:1))", "within 1 rate 1 ( x:1 | y:1 | ( z:1 | u:1 ) )"},
		{"within 1 rate 1 x:1 if--1-(2+x.a)*3/4<=-(x.b)", "within 1 rate 1 x:1 if - - 1 - ( 2 + x.a ) * 3 / 4 <= - ( x.b )"},
		{"within 1 rate 1 x:1 if 1=2or 1!=2and 1<2or 1<=2and 1>2or 1>=2", "within 1 rate 1 x:1 if 1 = 2 or 1 != 2 and 1 < 2 or 1 <= 2 and 1 > 2 or 1 >= 2"},
		{"within 1 rate 1 x:1 if 1 !=2 and 1 <= 2", "within 1 rate 1 x:1 if 1 != 2 and 1 <= 2"},
	} {
		for range 2 { // what is told is told the same when it is printed in its turn
			if s, at, e := herald.Print(c[0]); s != c[1] || at != 0 || e != api.OK {
				t.Errorf("P4: %q: %q, %d, %d, want %q", c[0], s, at, e, c[1])
			}
			c[0] = c[1]
		}
	}
}

func TestP4LongerThanMaxText(t *testing.T) {
	text := "within 1 rate 1 x:1 if 1=1" + strings.Repeat("+1", 280)
	want := "within 1 rate 1 x:1 if 1 = 1" + strings.Repeat(" + 1", 280)
	if s, at, e := herald.Print(text); s != want || at != 0 || e != api.OK {
		t.Errorf("P4: %q, %d, %d, want %q", s, at, e, want)
	}
	refusedAt(t, api.ErrText, 600, want)
}

// The errors are Compile's: of each kind one.
func TestP4Errors(t *testing.T) {
	for _, c := range []struct {
		want api.Errno
		text string
	}{
		{api.ErrText, "within 5 rate 5 x:1 @1"}, {api.ErrDeep, "within 5 rate 5 x:1 if --------@-1 = 1"}, {api.ErrNumber, "within 5 rate @13 x:1"}, {api.ErrBig, "within 5 rate 5 x:1 times 4 then y:1 times 4 then z:1"}, {api.ErrText, "within 5 rate 5 x:1 then @not 1"},
		{api.ErrTwice, "within 5 rate 5 x:1 then @x:1"}, {api.ErrName, "within 5 rate 5 x:1 if @y.a = 1"}, {api.ErrBig, "within 5 rate 12 (x:1 times 4|x:2 times 4) then y:1 times 4"},
	} {
		text, place := marked(c.text)
		if s, at, e := herald.Print(text); s != "" || at != place || e != c.want {
			t.Errorf("P4: %q: %q, %d, %d, want nothing, %d, %d", text, s, at, e, place, c.want)
		}
	}
}
