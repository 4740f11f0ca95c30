package herald_test

import (
	"strings"
	"testing"
	"time"

	"herald/api"
	"herald/herald"
)

// marked takes the `@` out of a text and tells where it stood (0, if there is none):
// so a test shows the place of an error in the text itself.
func marked(text string) (string, int) {
	at := strings.IndexByte(text, '@')
	if at < 0 {
		return text, 0
	}
	return text[:at] + text[at+1:], at
}

// refused: Compile and Print answer this error at the place of the `@`, and nothing else.
func refused(t *testing.T, want api.Errno, texts ...string) {
	t.Helper()
	for _, text := range texts {
		clean, place := marked(text)
		refusedAt(t, want, place, clean)
	}
}

func refusedAt(t *testing.T, want api.Errno, place int, text string) {
	t.Helper()
	if x, at, e := herald.Compile(text); x != nil || at != place || e != want {
		t.Errorf("Compile(%q): %v, %d, %d, want nothing, %d, %d", text, x, at, e, place, want)
	}
	if s, at, e := herald.Print(text); s != "" || at != place || e != want {
		t.Errorf("Print(%q): %q, %d, %d, want nothing, %d, %d", text, s, at, e, place, want)
	}
}

// taken: Compile gives an engine as it is ahead of all events, with this bound, and Print a text.
func taken(t *testing.T, bound int, text string) {
	t.Helper()
	x, at, e := herald.Compile(text)
	if x == nil || at != 0 || e != api.OK {
		t.Errorf("Compile(%q): %v, %d, %d, want an engine", text, x, at, e)
		return
	}
	if v := x.Look(); v != (api.View{Bound: bound}) {
		t.Errorf("Look of %q: %+v, want the bound %d and nothing else", text, v, bound)
	}
	if s, at, e := herald.Print(text); s == "" || at != 0 || e != api.OK {
		t.Errorf("Print(%q): %q, %d, %d, want a text", text, s, at, e)
	}
}

// ends: do is done before long, and without a panic that would end the test.
func ends(t *testing.T, do func()) {
	t.Helper()
	done := make(chan bool)
	go func() {
		defer close(done)
		do()
	}()
	select {
	case <-done:
	case <-time.After(2 * time.Minute):
		t.Fatal("P1: a call goes on without end")
	}
}
