package herald_test

import (
	"math/big"
	"regexp"
	"slices"
	"strconv"
	"strings"

	"herald/api"
)

// A second reading of the document, as near to its words and as far from the
// program's own ways as can be: slow, and for texts of which few paths come.

// refToken: sort is the token's own text, or number, name, wrong, end.
type refToken struct {
	text, sort string
	place      int
}

var (
	refShape    = regexp.MustCompile(`^(?:[a-z]+|[0-9]+|!=|<=|>=|[()|:.+*/=<>-])`)
	refReserved = strings.Fields("within rate then not if times and or it")
)

func refTokens(text string) []refToken {
	var all []refToken
	for at := 0; ; {
		rest := strings.TrimLeft(text[at:], " \n")
		at = len(text) - len(rest)
		piece := refShape.FindString(rest)
		sort := piece
		switch {
		case rest == "":
			return append(all, refToken{"", "end", at})
		case piece == "" || piece[0] <= '9' && piece[0] >= '0' && len(piece) > 9:
			return append(all, refToken{"", "wrong", at})
		case piece[0] <= '9' && piece[0] >= '0':
			sort = "number"
		case piece[0] <= 'z' && piece[0] >= 'a' && !slices.Contains(refReserved, piece):
			sort = "name"
			if len(piece) > 8 {
				sort = "long"
			}
		}
		all = append(all, refToken{piece, sort, at})
		at += len(piece)
	}
}

var refGrammar = map[string][]string{
	"PATTERN":   {"within number rate number SEQUENCE end"},
	"SEQUENCE":  {"PART", "SEQUENCE then PART"},
	"PART":      {"STEP", "GUARD", "( CHOICES )"},
	"CHOICES":   {"SEQUENCE | SEQUENCE", "CHOICES | SEQUENCE"},
	"STEP":      {"name : number", "name : number times number", "name : number if CONDITION", "name : number times number if CONDITION"},
	"GUARD":     {"not number", "not number if CONDITION"},
	"CONDITION": {"BOTH", "CONDITION or BOTH"},
	"BOTH":      {"TEST", "BOTH and TEST"},
	"TEST":      {"SUM = SUM", "SUM != SUM", "SUM < SUM", "SUM <= SUM", "SUM > SUM", "SUM >= SUM"},
	"SUM":       {"PRODUCT", "SUM + PRODUCT", "SUM - PRODUCT"},
	"PRODUCT":   {"FACTOR", "PRODUCT * FACTOR", "PRODUCT / FACTOR"},
	"FACTOR":    {"number", "- FACTOR", "( SUM )", "name . field", "it . field"},
}

// refItem: what is still wanted of a rule, which was begun at a token.
type refItem struct {
	rule, wanted string
	begun        int
}

// refMisplaced is Earley's way: all readings of the tokens side by side. The
// first token that leaves no reading is the first that cannot stand there.
func refMisplaced(tokens []refToken) (int, bool) {
	sets := [][]refItem{{{"", "PATTERN", 0}}}
	for i, t := range tokens {
		sets[i] = refClose(sets, i)
		var next []refItem
		for _, item := range sets[i] {
			want, rest, _ := strings.Cut(item.wanted, " ")
			if want == t.sort || want == "field" && len(t.text) == 1 && strings.Contains("abct", t.text) {
				next = append(next, refItem{item.rule, rest, item.begun})
			}
		}
		if next == nil {
			return t.place, true
		}
		sets = append(sets, next)
	}
	return 0, false
}

func refClose(sets [][]refItem, i int) []refItem {
	items := sets[i]
	seen := map[refItem]int{}
	var all []refItem
	for len(items) > 0 {
		item := items[0]
		items = items[1:]
		if _, ok := seen[item]; ok {
			continue
		}
		seen[item] = 1
		all = append(all, item)
		want, _, _ := strings.Cut(item.wanted, " ")
		for _, right := range refGrammar[want] {
			items = append(items, refItem{want, right, i})
		}
		if item.wanted != "" {
			continue
		}
		for _, waiting := range sets[item.begun] {
			if want, rest, _ := strings.Cut(waiting.wanted, " "); want == item.rule {
				items = append(items, refItem{waiting.rule, rest, waiting.begun})
			}
		}
	}
	return all
}

// refBehind is the index behind the factor, or the brackets, that begin at i.
func refBehind(tokens []refToken, i int) int {
	switch tokens[i].sort {
	case "number":
		return i + 1
	case "-":
		return refBehind(tokens, i+1)
	case "(":
		open := 1
		for open > 0 {
			i++
			switch tokens[i].sort {
			case "(":
				open++
			case ")":
				open--
			}
		}
		return i + 1
	}
	return i + 3
}

func refTooDeep(tokens []refToken) (int, bool) {
	inside := make([]int, len(tokens))
	for i, t := range tokens {
		opens := t.sort == "("
		if t.sort == "-" { // a factor's, unless a factor ends ahead of it
			ahead := tokens[i-1]
			opens = ahead.sort != "number" && ahead.sort != ")" && tokens[i-2].sort != "."
		}
		if !opens {
			continue
		}
		if inside[i] >= 8 {
			return t.place, true
		}
		for j := i + 1; j < refBehind(tokens, i); j++ {
			inside[j]++
		}
	}
	return 0, false
}

func refBadNumber(tokens []refToken) (int, bool) {
	bounds := map[string][2]int{"within": {1, 1000000}, "rate": {1, 12}, ":": {0, 99}, "not": {0, 99}, "times": {1, 4}}
	for i, t := range tokens {
		if t.sort != "number" {
			continue
		}
		n, _ := strconv.Atoi(t.text)
		if b, ok := bounds[tokens[i-1].sort]; ok && (n < b[0] || n > b[1]) {
			return t.place, true
		}
	}
	return 0, false
}

// refSplit cuts tokens at a sort that stands outside of brackets.
func refSplit(tokens []refToken, sort string) [][]refToken {
	var all [][]refToken
	from, open := 0, 0
	for i, t := range tokens {
		switch {
		case t.sort == "(":
			open++
		case t.sort == ")":
			open--
		case t.sort == sort && open == 0:
			all = append(all, tokens[from:i])
			from = i + 1
		}
	}
	return append(all, tokens[from:])
}

// refPaths: each path is the tokens of its steps and guards; a step with times stands in it so often.
func refPaths(sequence []refToken) [][][]refToken {
	all := [][][]refToken{nil}
	for _, part := range refSplit(sequence, "then") {
		var ways [][][]refToken
		switch {
		case part[0].sort == "(":
			for _, choice := range refSplit(part[1:len(part)-1], "|") {
				ways = append(ways, refPaths(choice)...)
			}
		case len(part) > 3 && part[3].sort == "times":
			n, _ := strconv.Atoi(part[4].text)
			ways = [][][]refToken{slices.Repeat([][]refToken{part}, n)}
		default:
			ways = [][][]refToken{{part}}
		}
		var longer [][][]refToken
		for _, head := range all {
			for _, tail := range ways {
				longer = append(longer, slices.Concat(head, tail))
			}
		}
		all = longer
	}
	return all
}

func refSteps(path [][]refToken) [][]refToken {
	return slices.DeleteFunc(slices.Clone(path), func(p []refToken) bool { return p[0].sort == "not" })
}

func refNameFaults(path [][]refToken, i int) map[int]api.Errno {
	faults := map[int]api.Errno{}
	known := map[string]int{} // a name's step, by its place
	for _, p := range refSteps(path[:i]) {
		known[p[0].text] = p[0].place
	}
	part := path[i]
	if at, ok := known[part[0].text]; ok && at != part[0].place {
		faults[part[0].place] = api.ErrTwice
	}
	if part[0].sort == "name" {
		known[part[0].text] = part[0].place
	}
	for k, t := range part {
		if t.sort != "name" || k == 0 || part[k-1].sort == "." {
			continue
		}
		if _, ok := known[t.text]; !ok {
			faults[t.place] = api.ErrName
		}
	}
	return faults
}

// refCompile: the bound, or the place and the error.
func refCompile(text string) (int, int, api.Errno) {
	if len(text) > 600 {
		return 0, 600, api.ErrText
	}
	tokens := refTokens(text)
	if at, bad := refMisplaced(tokens); bad {
		return 0, at, api.ErrText
	}
	if at, bad := refTooDeep(tokens); bad {
		return 0, at, api.ErrDeep
	}
	if at, bad := refBadNumber(tokens); bad {
		return 0, at, api.ErrNumber
	}
	paths := refPaths(tokens[4 : len(tokens)-1])
	guards, names := map[int]api.Errno{}, map[int]api.Errno{}
	rate, _ := strconv.ParseInt(tokens[3].text, 10, 64)
	bound := 0
	for _, path := range paths {
		steps := len(refSteps(path))
		if len(paths) > 16 || steps > 8 {
			return 0, 0, api.ErrBig
		}
		for i, part := range path {
			if part[0].sort == "not" && (len(refSteps(path[:i])) == 0 || len(refSteps(path[i:])) == 0) {
				guards[part[0].place] = api.ErrText
			}
			for at, e := range refNameFaults(path, i) {
				names[at] = e
			}
		}
		for k := 1; k < steps; k++ {
			bound += int(new(big.Int).Binomial(rate, int64(k)).Int64())
		}
	}
	for _, faults := range []map[int]api.Errno{guards, names} {
		for at := range len(text) {
			if e, ok := faults[at]; ok {
				return 0, at, e
			}
		}
	}
	if bound > 4000 {
		return 0, 0, api.ErrBig
	}
	return bound, 0, api.OK
}

// refPrint tells a text in which there is no error.
func refPrint(text string) string {
	var words []string
	for _, t := range refTokens(text) {
		if t.sort == "number" {
			n, _ := strconv.Atoi(t.text)
			t.text = strconv.Itoa(n)
		}
		words = append(words, t.text)
	}
	joined := strings.TrimSuffix(strings.Join(words, " "), " ")
	return strings.NewReplacer(" : ", ":", " . ", ".").Replace(joined)
}
