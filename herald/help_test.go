package herald_test

import (
	"fmt"
	"slices"
	"strings"
	"testing"
	"time"

	"herald/api"
	"herald/herald"
)

// marked takes the `@` out of a text and tells where it stood (0, if there is none):
// so a test shows the place of an error in the text itself.
func marked(text string) (string, int) {
	at := strings.IndexByte(text, '@')
	if at < 0 {
		return text, 0
	}
	return text[:at] + text[at+1:], at
}

// refused: Compile and Print answer this error at the place of the `@`, and nothing else.
func refused(t *testing.T, want api.Errno, texts ...string) {
	t.Helper()
	for _, text := range texts {
		clean, place := marked(text)
		refusedAt(t, want, place, clean)
	}
}

func refusedAt(t *testing.T, want api.Errno, place int, text string) {
	t.Helper()
	if x, at, e := herald.Compile(text); x != nil || at != place || e != want {
		t.Errorf("Compile(%q): %v, %d, %d, want nothing, %d, %d", text, x, at, e, place, want)
	}
	if s, at, e := herald.Print(text); s != "" || at != place || e != want {
		t.Errorf("Print(%q): %q, %d, %d, want nothing, %d, %d", text, s, at, e, place, want)
	}
}

// taken: Compile gives an engine as it is ahead of all events, with this bound, and Print a text.
func taken(t *testing.T, bound int, text string) {
	t.Helper()
	x, at, e := herald.Compile(text)
	if x == nil || at != 0 || e != api.OK {
		t.Errorf("Compile(%q): %v, %d, %d, want an engine", text, x, at, e)
		return
	}
	if v := x.Look(); v != (api.View{Bound: bound}) {
		t.Errorf("Look of %q: %+v, want the bound %d and nothing else", text, v, bound)
	}
	if s, at, e := herald.Print(text); s == "" || at != 0 || e != api.OK {
		t.Errorf("Print(%q): %q, %d, %d, want a text", text, s, at, e)
	}
}

// ends: do is done before long, and without a panic that would end the test.
func ends(t *testing.T, do func()) {
	t.Helper()
	done := make(chan bool)
	go func() {
		defer close(done)
		do()
	}()
	select {
	case <-done:
	case <-time.After(2 * time.Minute):
		t.Fatal("P1: a call goes on without end")
	}
}

// engine is one that Compile gives of the text.
func engine(t *testing.T, text string) *herald.Engine {
	t.Helper()
	x, at, e := herald.Compile(text)
	if x == nil || at != 0 || e != api.OK {
		t.Fatalf("Compile(%q): %v, %d, %d, want an engine", text, x, at, e)
	}
	return x
}

// five is an event: its time, its kind, its fields.
type five [5]int

func (f five) event() api.Event {
	return api.Event{Time: f[0], Kind: f[1], A: f[2], B: f[3], C: f[4]}
}

// fed feeds events, and tells as a text the matches behind each of them, and behind a colon the runs.
func fed(t *testing.T, x *herald.Engine, events ...five) string {
	t.Helper()
	var all []string
	for i, ev := range events {
		matches, e := x.Feed(ev.event())
		if e != api.OK {
			t.Fatalf("Feed(%v), event %d: error %d", ev, i, e)
		}
		all = append(all, fmt.Sprint(matches, ":", x.Look().Runs))
	}
	return strings.Join(all, " ")
}

// tells: an engine of the text, fed with the events, tells this.
func tells(t *testing.T, text, want string, events ...five) {
	t.Helper()
	if got := fed(t, engine(t, text), events...); got != want {
		t.Errorf("%q: fed with %v: %s, want %s", text, events, got, want)
	}
}

// fails: the event is refused, and all is as before but for the failure.
func fails(t *testing.T, x *herald.Engine, want api.Errno, ev five) {
	t.Helper()
	view := x.Look()
	view.Failed = want
	if matches, e := x.Feed(ev.event()); len(matches) != 0 || e != want {
		t.Errorf("P5: Feed(%v): %v, %d, want nothing, %d", ev, matches, e, want)
	}
	if v := x.Look(); v != view {
		t.Errorf("P6: behind a failure: %+v, want %+v", v, view)
	}
}

func sameLists(a, b [][]int) bool { return slices.EqualFunc(a, b, slices.Equal) }
