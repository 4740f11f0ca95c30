package herald_test

import (
	"math/rand"
	"strings"
	"testing"

	"herald/api"
	"herald/herald"
)

// maker makes texts by the grammar, by chance, of which many are patterns.
type maker struct{ *rand.Rand }

func (m maker) pick(words string) string {
	all := strings.Fields(words)
	return all[m.Intn(len(all))]
}

// rare tells true once in n times.
func (m maker) rare(n int) bool { return m.Intn(n) == 0 }

func (m maker) number(good, bad string) string {
	if m.rare(80) {
		return m.pick(bad)
	}
	return m.pick(good)
}

func (m maker) pattern() string {
	return "within " + m.number("1 2 007 1000000", "0 1000001 999999999") + " rate " + m.number("1 2 5 08 11 12 12", "0 13") + " " + m.sequence(9)
}

func (m maker) sequence(room int) string {
	s := m.part(room)
	for room > 1 && m.rare(2) {
		room /= 2
		s += " then " + m.part(room)
	}
	return s
}

func (m maker) part(room int) string {
	switch {
	case m.rare(6):
		return "not " + m.number("0 1 99", "100") + m.condition()
	case room > 1 && m.rare(3):
		s := "( " + m.sequence(room/2) + " | " + m.sequence(room/2)
		for m.rare(4) {
			s += " | " + m.sequence(room/2)
		}
		return s + " )"
	}
	s := m.pick("x y z a abcdefgh q r s u v w") + " : " + m.number("0 1 2 99", "100")
	if m.rare(4) {
		s += " times " + m.number("1 2 3 4", "0 5")
	}
	return s + m.condition()
}

func (m maker) condition() string {
	if !m.rare(4) {
		return ""
	}
	s := " if " + m.test()
	for m.rare(3) {
		s += m.pick("or and") + " " + m.test()
	}
	return s
}

func (m maker) test() string { return m.sum(3) + m.pick("= != < <= > >=") + " " + m.sum(3) }

func (m maker) sum(room int) string {
	s := m.factor(room)
	for room > 0 && m.rare(3) {
		s += m.pick("+ - * /") + " " + m.factor(room-1)
	}
	return s
}

func (m maker) factor(room int) string {
	switch {
	case m.rare(40):
		n := m.Intn(10)
		return strings.Repeat("( ", n) + m.factor(0) + strings.Repeat(") ", n)
	case m.rare(40):
		return strings.Repeat("- ", m.Intn(10)) + m.factor(0)
	case room > 0 && m.rare(4):
		return "( " + m.sum(room-1) + ") "
	case room > 0 && m.rare(4):
		return "- " + m.factor(room-1)
	case m.rare(3):
		return m.pick("x y z q") + " . " + m.pick("a b c t") + " "
	case m.rare(2):
		return "it . " + m.pick("a b c t") + " "
	}
	return m.pick("0 1 07 999999999") + " "
}

// spoil changes a token or a byte, or none.
func (m maker) spoil(text string) string {
	words := strings.Fields(text)
	i := m.Intn(len(words))
	other := m.pick("( ) | : . + - * / = != < <= > >= ! ; within rate then not if times and or it x a 1 0 100 1234567890 abcdefghi")
	switch m.Intn(12) {
	case 0:
		words[i] = other
	case 1:
		words[i] += " " + other
	case 2:
		words[i] = ""
	case 3:
		words[i] += "\x00\t\xff~"[m.Intn(4):][:1]
	case 4:
		words = words[:i]
	}
	return strings.Join(words, " ")
}

// squeeze takes out blanks that need not be, or lays more.
func (m maker) squeeze(text string) string {
	var out strings.Builder
	for i, b := range []byte(text) {
		near := i > 0 && i+1 < len(text) && (isWordByte(text[i-1]) != isWordByte(text[i+1]) || text[i-1] == ')')
		switch {
		case b == ' ' && near && m.rare(2):
		case b == ' ' && m.rare(20):
			out.WriteString(" \n ")
		default:
			out.WriteByte(b)
		}
	}
	return out.String()
}

func isWordByte(b byte) bool { return 'a' <= b && b <= 'z' || '0' <= b && b <= '9' }

func TestRandomTextsAsTheDocumentSays(t *testing.T) {
	m := maker{rand.New(rand.NewSource(7))}
	told := map[api.Errno]int{}
	wrong := 0
	for n := 0; n < 20000 && wrong < 10; n++ {
		text := m.squeeze(m.spoil(m.pattern()))
		bound, place, want := refCompile(text)
		told[want]++
		x, at, e := herald.Compile(text)
		s, printAt, printE := herald.Print(text)
		switch {
		case at != place || e != want || printAt != place || printE != want:
			t.Errorf("P3: %q: Compile %d, %d, Print %d, %d, want %d, %d", text, at, e, printAt, printE, place, want)
			wrong++
		case want != api.OK:
		case x == nil || x.Look() != (api.View{Bound: bound}):
			t.Errorf("P3: %q: want an engine with the bound %d", text, bound)
			wrong++
		case s != refPrint(text):
			t.Errorf("P4: %q: %q, want %q", text, s, refPrint(text))
			wrong++
		}
	}
	for _, e := range []api.Errno{api.OK, api.ErrText, api.ErrDeep, api.ErrNumber, api.ErrTwice, api.ErrName, api.ErrBig} {
		if told[e] < 100 {
			t.Errorf("only %d of the texts are answered %d: the test is too weak", told[e], e)
		}
	}
	t.Log(told)
}
