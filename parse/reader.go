package parse

import (
	"slices"
	"strconv"

	"herald/api"
	"herald/scan"
)

// reader goes through tokens from left to right. What may not be beside the
// grammar is marked, and told only when the grammar holds to the end.
type reader struct {
	ahead     []scan.Token // never empty: its last token is never taken
	deep      int
	tooDeep   mark
	badNumber mark
	ops       []Op // of the condition that is being read
}

// mark keeps the first place that it is told.
type mark struct {
	set   bool
	place int
}

func (m *mark) put(place int) {
	if !m.set {
		*m = mark{true, place}
	}
}

func (r *reader) now() scan.Token { return r.ahead[0] }

func (r *reader) skip() { r.ahead = r.ahead[1:] }

// fail leaves nothing ahead but a wrong token at the same place: all that is
// asked for behind it fails there too, so that no one need look for a failure
// but at the end.
func (r *reader) fail() {
	r.ahead = []scan.Token{{Kind: scan.Wrong, Place: r.now().Place}}
}

// which goes past the next token if it is one of texts, and tells that one. It
// tells the text it was given, not the token's, which is the caller's and not
// to be kept.
func (r *reader) which(texts ...string) string {
	i := slices.Index(texts, r.now().Text)
	if i < 0 {
		return ""
	}
	r.skip()
	return texts[i]
}

func (r *reader) take(texts ...string) bool { return r.which(texts...) != "" }

func (r *reader) expect(texts ...string) string {
	text := r.which(texts...)
	if text == "" {
		r.fail()
	}
	return text
}

func (r *reader) number(low, high int) int {
	t := r.now()
	if t.Kind != scan.Number {
		r.fail()
		return 0
	}
	r.skip()
	value, _ := strconv.Atoi(t.Text) // a token has too few digits to overflow
	if value < low || value > high {
		r.badNumber.put(t.Place)
	}
	return value
}

// enter goes past a bracket or a factor's `-`; leave is called where it ends.
func (r *reader) enter() {
	if r.deep >= api.MaxDeep {
		r.tooDeep.put(r.now().Place)
	}
	r.deep++
	r.skip()
}

func (r *reader) leave() { r.deep-- }
