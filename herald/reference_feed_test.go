package herald_test

import (
	"cmp"
	"math/big"
	"slices"
	"strconv"

	"herald/api"
)

// The second reading of the document, for events: it keeps all of them, and
// looks at each list of them anew with each one.

type refEngine struct {
	paths        [][][]refToken
	window, rate int
	bound        int
	events       []api.Event
	failed       api.Errno
}

// newRef is of a text in which there is no error.
func newRef(text string) *refEngine {
	tokens := refTokens(text)
	x := &refEngine{paths: refPaths(tokens[4 : len(tokens)-1])}
	x.window, _ = strconv.Atoi(tokens[1].text)
	x.rate, _ = strconv.Atoi(tokens[3].text)
	x.bound, _, _ = refCompile(text)
	return x
}

// isLater: the first time is later than the second less the window.
func (x *refEngine) isLater(time, than int) bool {
	edge := new(big.Int).Sub(big.NewInt(int64(than)), big.NewInt(int64(x.window)))
	return big.NewInt(int64(time)).Cmp(edge) > 0
}

// refusal is what is told of an event that is fed.
func (x *refEngine) refusal(ev api.Event) api.Errno {
	all := append(slices.Clone(x.events), ev)
	later := 0
	for _, other := range all {
		if x.isLater(other.Time, ev.Time) {
			later++
		}
	}
	switch {
	case x.failed != api.OK:
		return x.failed
	case len(x.events) > 0 && ev.Time < x.events[len(x.events)-1].Time:
		return api.ErrTime
	case later > x.rate:
		return api.ErrRate
	}
	return api.OK
}

func (x *refEngine) feed(ev api.Event) ([][]int, api.Errno) {
	if x.failed = x.refusal(ev); x.failed != api.OK {
		return nil, x.failed
	}
	x.events = append(x.events, ev)
	var told [][]int
	for _, path := range x.paths {
		for _, list := range x.lists(path, len(refSteps(path))) {
			same := func(other []int) bool { return slices.Equal(other, list) }
			if list[len(list)-1] == len(x.events)-1 && !slices.ContainsFunc(told, same) {
				told = append(told, list)
			}
		}
	}
	slices.SortFunc(told, func(a, b []int) int {
		for i := range min(len(a), len(b)) {
			if a[i] != b[i] {
				return cmp.Compare(a[i], b[i])
			}
		}
		return cmp.Compare(len(a), len(b))
	})
	return told, api.OK
}

func (x *refEngine) look() api.View {
	runs := 0
	for _, path := range x.paths {
		for k := 1; k < len(refSteps(path)); k++ {
			for _, list := range x.lists(path, k) {
				if !x.isForbidden(path, list, len(x.events)) {
					runs++
				}
			}
		}
	}
	return api.View{Events: len(x.events), Runs: runs, Bound: x.bound, Failed: x.failed}
}

// lists: all rising lists of events' numbers for the first k steps of a path, of
// which the first is in the window of the last event fed.
func (x *refEngine) lists(path [][]refToken, k int) [][]int {
	if k == 0 {
		return [][]int{nil}
	}
	last := x.events[len(x.events)-1].Time
	var all [][]int
	for _, ahead := range x.lists(path, k-1) {
		for n := range x.events {
			rising := k == 1 || n > ahead[k-2]
			if rising && x.isLater(x.events[n].Time, last) && x.isStep(path, ahead, n) && !x.isForbidden(path, ahead, n) {
				all = append(all, append(slices.Clone(ahead), n))
			}
		}
	}
	return all
}

// isStep: event n can be the next step's, behind these.
func (x *refEngine) isStep(path [][]refToken, ahead []int, n int) bool {
	step := refSteps(path)[len(ahead)]
	names := x.names(path, ahead)
	names["it"], names[step[0].text] = x.events[n], x.events[n]
	kind, _ := strconv.Atoi(step[2].text)
	return x.events[n].Kind == kind && refHolds(step, names)
}

// isForbidden: some guard behind the last of these does not let event n be the next.
func (x *refEngine) isForbidden(path [][]refToken, ahead []int, n int) bool {
	if len(ahead) == 0 {
		return false
	}
	steps := 0
	for _, part := range path {
		if part[0].sort != "not" {
			steps++
			continue
		}
		if steps != len(ahead) {
			continue
		}
		kind, _ := strconv.Atoi(part[1].text)
		for between := ahead[len(ahead)-1] + 1; between < n; between++ {
			names := x.names(path, ahead)
			names["it"] = x.events[between]
			if x.events[between].Kind == kind && refHolds(part, names) {
				return true
			}
		}
	}
	return false
}

func (x *refEngine) names(path [][]refToken, ahead []int) map[string]api.Event {
	names := map[string]api.Event{}
	for i, n := range ahead {
		names[refSteps(path)[i][0].text] = x.events[n]
	}
	return names
}

// refHolds: part is a step or a guard; what stands behind its `if` is asked.
func refHolds(part []refToken, names map[string]api.Event) bool {
	at := slices.IndexFunc(part, func(t refToken) bool { return t.sort == "if" })
	if at < 0 {
		return true
	}
	return slices.ContainsFunc(refSplit(part[at+1:], "or"), func(both []refToken) bool {
		return !slices.ContainsFunc(refSplit(both, "and"), func(test []refToken) bool {
			return !refTest(test, names)
		})
	})
}

func refTest(test []refToken, names map[string]api.Event) bool {
	for i, t := range test {
		if !slices.Contains([]string{"=", "!=", "<", "<=", ">", ">="}, t.sort) {
			continue
		}
		left, right := refValue(test[:i], names), refValue(test[i+1:], names)
		if left == nil || right == nil {
			return false
		}
		order := left.Cmp(right)
		return map[string]bool{"=": order == 0, "!=": order != 0, "<": order < 0, "<=": order <= 0, ">": order > 0, ">=": order >= 0}[t.sort]
	}
	panic("no test")
}

// refValue is nothing where something is divided by 0.
func refValue(sum []refToken, names map[string]api.Event) *big.Int {
	for _, signs := range [][]string{{"+", "-"}, {"*", "/"}} {
		if at := refLastSign(sum, signs); at >= 0 {
			return refBoth(refValue(sum[:at], names), sum[at].sort, refValue(sum[at+1:], names))
		}
	}
	switch first := sum[0]; first.sort {
	case "-":
		return refBoth(new(big.Int), "-", refValue(sum[1:], names))
	case "(":
		return refValue(sum[1:len(sum)-1], names)
	case "number":
		n, _ := strconv.ParseInt(first.text, 10, 64)
		return big.NewInt(n)
	}
	ev := names[sum[0].text]
	return big.NewInt(int64(map[string]int{"a": ev.A, "b": ev.B, "c": ev.C, "t": ev.Time}[sum[2].text]))
}

// refLastSign: the last one outside of brackets that stands between two others.
func refLastSign(sum []refToken, signs []string) int {
	open, last := 0, -1
	for i, t := range sum {
		switch {
		case t.sort == "(":
			open++
		case t.sort == ")":
			open--
		case open == 0 && i > 0 && slices.Contains(signs, t.sort):
			if ahead := sum[i-1].sort; !slices.Contains([]string{"+", "-", "*", "/"}, ahead) {
				last = i
			}
		}
	}
	return last
}

func refBoth(left *big.Int, sign string, right *big.Int) *big.Int {
	if left == nil || right == nil || sign == "/" && right.Sign() == 0 {
		return nil
	}
	out := new(big.Int)
	switch sign {
	case "+":
		out.Add(left, right)
	case "-":
		out.Sub(left, right)
	case "*":
		out.Mul(left, right)
	case "/":
		out.Quo(left, right)
	}
	half := new(big.Int).Lsh(big.NewInt(1), 63)
	out.Add(out, half)
	out.Mod(out, new(big.Int).Lsh(big.NewInt(1), 64))
	return out.Sub(out, half)
}
