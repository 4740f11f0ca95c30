package herald_test

import (
	"math"
	"math/rand"
	"slices"
	"strconv"
	"strings"
	"testing"

	"herald/api"
	"herald/herald"
)

// watcher makes patterns by chance that are worth feeding: few kinds, and
// conditions on names that are known.
type watcher struct {
	maker
	fresh int
}

func (m *watcher) name() string {
	m.fresh++
	return string(rune('a' + m.fresh%26))
}

func (m *watcher) pattern() string {
	m.fresh = m.Intn(26)
	text, _ := m.sequence(nil, 3)
	return "within " + m.pick("1 3 5 8 12 1000000") + " rate " + m.pick("1 3 5 6 7 8 9") + " " + text
}

// sequence tells a text, and the names that are known behind it.
func (m *watcher) sequence(known []string, room int) (string, []string) {
	text, known := m.part(known, room)
	for room > 0 && !m.rare(3) {
		room--
		if m.rare(3) {
			text += " then not " + m.pick("0 1 2 3") + m.condition(known)
		}
		more := ""
		more, known = m.part(known, room)
		text += " then " + more
	}
	return text, known
}

func (m *watcher) part(known []string, room int) (string, []string) {
	if room == 0 || !m.rare(4) {
		return m.step(known, m.name())
	}
	shared := m.name()
	var choices []string
	for range 2 + m.Intn(2) {
		own := known
		text := ""
		if m.rare(2) {
			text, own = m.sequence(own, room-1)
			text += " then "
		}
		step, _ := m.step(own, shared)
		choices = append(choices, text+step)
	}
	return "( " + strings.Join(choices, " | ") + " )", append(slices.Clip(known), shared)
}

func (m *watcher) step(known []string, name string) (string, []string) {
	known = append(slices.Clip(known), name)
	text := name + ":" + m.pick("0 0 1 2")
	if m.rare(4) {
		text += " times " + m.pick("1 2 3")
	}
	return text + m.condition(known), known
}

func (m *watcher) condition(known []string) string {
	if !m.rare(3) {
		return ""
	}
	text := " if " + m.test(known)
	for m.rare(3) {
		text += m.pick("or and") + " " + m.test(known)
	}
	return text
}

func (m *watcher) test(known []string) string {
	return m.sum(known, 2) + m.pick("= != < <= > >=") + " " + m.sum(known, 2)
}

func (m *watcher) sum(known []string, room int) string {
	text := m.factor(known, room)
	for room > 0 && m.rare(3) {
		text += m.pick("+ - * /") + " " + m.factor(known, room-1)
	}
	return text
}

func (m *watcher) factor(known []string, room int) string {
	switch {
	case room > 0 && m.rare(5):
		return "( " + m.sum(known, room-1) + ") "
	case m.rare(5):
		return "- " + m.factor(known, room)
	case m.rare(5):
		return m.pick("0 1 2 999999999") + " "
	case m.rare(2) && len(known) > 0:
		return known[m.Intn(len(known))] + "." + m.pick("a b c t") + " "
	}
	return "it." + m.pick("a b c t") + " "
}

// event makes one that often is not refused.
func (m *watcher) event(x *refEngine) api.Event {
	var ev api.Event
	if len(x.events) == 0 {
		ev.Time = []int{math.MinInt, -5, 0, 7, math.MaxInt - 20}[m.Intn(5)]
	} else {
		ev.Time = x.events[len(x.events)-1].Time
	}
	more := []int{0, 0, 0, 0, 1, 1, 1, 2, x.window - 1, x.window}[m.Intn(10)]
	ev.Time += min(more, math.MaxInt-max(ev.Time, 0))
	ev.Kind = []int{0, 0, 0, 0, 1, 1, 1, 2, 2, 3}[m.Intn(10)]
	for _, field := range []*int{&ev.A, &ev.B, &ev.C} {
		*field = []int{0, 1, 2, 1, 2, 3, -1, -2, math.MinInt, math.MaxInt}[m.Intn(10)]
	}
	if m.rare(60) && ev.Time > math.MinInt {
		ev.Time--
	}
	for x.refusal(ev) == api.ErrRate && !m.rare(12) && ev.Time < math.MaxInt {
		ev.Time++
		if x.window > 100 && m.rare(2) {
			ev.Time += min(x.window, math.MaxInt-max(ev.Time, 0))
		}
	}
	return ev
}

// watched: an engine of the text and one of what Print tells of it are fed with
// one stream of events, and held against the second reading of the document.
func (m *watcher) watched(t *testing.T, text string, count map[string]int) {
	t.Helper()
	x, printed, ref := engine(t, text), (*herald.Engine)(nil), newRef(text)
	if s, _, _ := herald.Print(text); len(s) <= api.MaxText {
		printed = engine(t, s)
	}
	refused := 0
	for n := 0; n < 40 && refused < 3; n++ {
		ev := m.event(ref)
		want, wantE := ref.feed(ev)
		view := ref.look()
		matches, e := x.Feed(ev)
		if e != wantE || !sameLists(matches, want) {
			t.Fatalf("P5: %q: %v, behind %v: %v, %d, want %v, %d", text, ev, ref.events, matches, e, want, wantE)
		}
		if v := x.Look(); v != view {
			t.Fatalf("P6: %q: behind %v: %+v, want %+v", text, ref.events, v, view)
		}
		if view.Runs > view.Bound {
			t.Fatalf("P7: %q: behind %v: %d runs, and the bound is %d", text, ref.events, view.Runs, view.Bound)
		}
		if printed != nil {
			if again, e := printed.Feed(ev); e != wantE || !sameLists(again, want) || printed.Look() != view {
				t.Fatalf("P8: %q: %v, behind %v: %v, %d, %+v, want %v, %d, %+v", text, ev, ref.events, again, e, printed.Look(), want, wantE, view)
			}
		}
		if wantE != api.OK {
			refused++
		}
		count["matches"] += len(want)
		count["several"] += len(want) / 2
		count["runs"] += view.Runs
		count["error "+strconv.Itoa(int(wantE))]++
	}
	if strings.Contains(text, "not ") {
		count["guards"]++
	}
	if strings.Contains(text, "|") {
		count["brackets"]++
	}
}

func TestRandomEventsAsTheDocumentSays(t *testing.T) {
	m := &watcher{maker: maker{rand.New(rand.NewSource(11))}}
	count := map[string]int{}
	for count["patterns"] < 1500 {
		text := m.pattern()
		if _, _, e := refCompile(text); e != api.OK {
			count["no pattern"]++
			continue
		}
		count["patterns"]++
		m.watched(t, text, count)
	}
	for _, what := range []string{"matches", "several", "runs", "guards", "brackets", "error 0", "error 7", "error 8"} {
		if count[what] < 300 {
			t.Errorf("%s: only %d: the test is too weak", what, count[what])
		}
	}
	t.Log(count)
}
