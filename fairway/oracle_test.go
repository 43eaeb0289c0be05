package fairway_test

import (
	"fmt"
	"strings"
	"testing"

	"fairway/fairway"
)

// stateText is a state of a graph as its text has it.
type stateText struct{ marks, next string }

func statesOf(graph string) []stateText {
	states := []stateText{}
	for _, text := range strings.Split(strings.TrimSuffix(graph, ";"), ";") {
		marks, next, _ := strings.Cut(text, ">")
		states = append(states, stateText{marks, next})
	}
	return states
}

// quantifier tells in which states E with a sign holds, if these are the
// states in which its parts do.
type quantifier func(sign byte, left, right []bool) []bool

// truth tells in which states the formula at the beginning of a text holds,
// and what stands behind it. The text is that of a formula.
func truth(states []stateText, text string, some quantifier) ([]bool, string) {
	out := make([]bool, len(states))
	if text[0] == 'T' || text[0] >= 'a' {
		for i, s := range states {
			out[i] = text[0] == 'T' || strings.Contains(s.marks, text[:1])
		}
		return out, text[1:]
	}
	if text[0] == '!' {
		part, behind := truth(states, text[1:], some)
		return not(part), behind
	}
	if text[1] == 'X' {
		part, behind := truth(states, text[2:], some)
		return ways(text[0], 'X', part, part, some), behind
	}
	ahead := 1 + strings.Count(text[:2], "[")
	left, behind := truth(states, text[ahead:], some)
	right, behind2 := truth(states, behind[1:], some)
	if ahead == 2 {
		return ways(text[0], behind[0], left, right, some), behind2[1:]
	}
	for i := range out {
		out[i] = behind[0] == '&' && left[i] && right[i] || behind[0] == '+' && (left[i] || right[i])
	}
	return out, behind2[1:]
}

func ways(way, sign byte, left, right []bool, some quantifier) []bool {
	if way == 'E' {
		return some(sign, left, right)
	}
	signs := map[byte]byte{'X': 'X', 'U': 'R', 'R': 'U'}
	return not(some(signs[sign], not(left), not(right)))
}

func not(set []bool) []bool {
	out := make([]bool, len(set))
	for i := range set {
		out[i] = !set[i]
	}
	return out
}

func digits(set []bool) string {
	out := ""
	for _, in := range set {
		out += map[bool]string{true: "1", false: "0"}[in]
	}
	return out
}

// lasso is a way: the states at its listed places, those from loop on coming
// again and again.
type lasso struct {
	states []int
	loop   int
}

// fairLassos are the lassos of a graph from a state with at most so many
// listed places.
func fairLassos(states []stateText, fair string, from, most int) []lasso {
	found := []lasso{}
	lists := [][]int{{from}}
	for len(lists) > 0 {
		list := lists[0]
		lists = lists[1:]
		for _, digit := range states[list[len(list)-1]].next {
			next := int(digit - '0')
			for loop, state := range list {
				if state == next && allMet(states, fair, list[loop:]) {
					found = append(found, lasso{list, loop})
				}
			}
			if len(list) < most {
				lists = append(lists, append(append([]int{}, list...), next))
			}
		}
	}
	return found
}

func allMet(states []stateText, fair string, loop []int) bool {
	marks := ""
	for _, state := range loop {
		marks += states[state].marks
	}
	for _, mark := range fair {
		if !strings.ContainsRune(marks, mark) {
			return false
		}
	}
	return true
}

// holds tells, by the words of the table, whether X, U or R holds on a lasso.
// A place behind the listed ones is like an earlier one of them.
func (l lasso) holds(sign byte, left, right []bool) bool {
	if sign == 'X' {
		if len(l.states) == 1 {
			return left[l.states[0]]
		}
		return left[l.states[1]]
	}
	leftBelow, rightBelow := true, true
	for _, state := range l.states {
		if sign == 'U' && right[state] && leftBelow {
			return true
		}
		if sign == 'R' && left[state] && right[state] && rightBelow {
			return true
		}
		leftBelow = leftBelow && left[state]
		rightBelow = rightBelow && right[state]
	}
	return sign == 'R' && rightBelow
}

// byLassos looks at every lasso up to a length.
func byLassos(states []stateText, fair string, most int) quantifier {
	lassos := make([][]lasso, len(states))
	for state := range states {
		lassos[state] = fairLassos(states, fair, state, most)
	}
	return func(sign byte, left, right []bool) []bool {
		out := make([]bool, len(states))
		for state := range states {
			for _, l := range lassos[state] {
				if l.holds(sign, left, right) {
					out[state] = true
					break
				}
			}
		}
		return out
	}
}

// byFixpoints goes by sets that grow or shrink until they stay the same: a
// state keeps to a set fairly if it is in it, and for each fair mark it can
// go on within the set to a state that bears it and keeps to the set fairly.
func byFixpoints(states []stateText, fair string) quantifier {
	pre := func(goal []bool) []bool {
		out := make([]bool, len(states))
		for i, s := range states {
			for _, digit := range s.next {
				out[i] = out[i] || goal[digit-'0']
			}
		}
		return out
	}
	until := func(left, right []bool) []bool {
		out := append([]bool{}, right...)
		for before := ""; before != digits(out); {
			before = digits(out)
			for i, in := range pre(out) {
				out[i] = out[i] || left[i] && in
			}
		}
		return out
	}
	keeping := func(set []bool) []bool {
		out := append([]bool{}, set...)
		for before := ""; before != digits(out); {
			before = digits(out)
			onward := pre(out)
			for _, mark := range fair {
				met := make([]bool, len(states))
				for i, s := range states {
					met[i] = out[i] && strings.ContainsRune(s.marks, mark)
				}
				for i, in := range pre(until(set, met)) {
					onward[i] = onward[i] && in
				}
			}
			for i := range out {
				out[i] = out[i] && onward[i]
			}
		}
		return out
	}
	all := keeping(not(make([]bool, len(states))))
	return func(sign byte, left, right []bool) []bool {
		goal := make([]bool, len(states))
		for i := range goal {
			goal[i] = all[i] && (sign == 'U' || left[i]) && (sign == 'X' || right[i])
		}
		if sign == 'X' {
			return pre(goal)
		}
		if sign == 'U' {
			return until(left, goal)
		}
		out := until(right, goal)
		for i, in := range keeping(right) {
			out[i] = out[i] || in
		}
		return out
	}
}

func testTruth(t *testing.T, graph, fair string, formulas []string, some quantifier) {
	t.Helper()
	states := statesOf(graph)
	for _, formula := range formulas {
		set, behind := truth(states, formula, some)
		if behind != "" {
			t.Fatalf("%q is no formula", formula)
		}
		testSolve(t, []solveCase{{graph, fair, formula, digits(set), fairway.OK}})
	}
}

// wayFormulas have each sign with E and A, over parts that hold in few states
// and in many, and within one another.
func wayFormulas() []string {
	formulas := []string{}
	parts := []string{"T", "!T", "p", "!p", "q", "!q"}
	for _, way := range []string{"E", "A"} {
		for _, f := range parts {
			formulas = append(formulas, way+"X"+f)
			for _, g := range parts {
				formulas = append(formulas, way+"["+f+"U"+g+"]", way+"["+f+"R"+g+"]")
			}
		}
	}
	return append(formulas,
		"EXAXEXp", "AXEXAXp", "E[pUA[qUEXp]]", "A[pRE[qRAXp]]", "A[EX!pUE[qRp]]", "E[AXqRA[pRq]]",
		"!(E[pUq]+!AXp)", "((p&EXq)+A[qU!p])", "E[TUE[!TRp]]", "A[!TRA[TUp]]", "A[!TRE[TUA[qRp]]]")
}

// allPairs are all graphs of two states with the marks p and q.
func allPairs() []string {
	states := []string{}
	for _, marks := range []string{"", "p", "q", "pq"} {
		for _, next := range []string{"", "0", "1", "01"} {
			states = append(states, marks+">"+next+";")
		}
	}
	graphs := []string{}
	for _, one := range states {
		for _, other := range states {
			graphs = append(graphs, one+other)
		}
	}
	return graphs
}

func TestSolveAllPairs(t *testing.T) {
	for _, graph := range allPairs() {
		for _, fair := range []string{"", "p", "q", "pq", "z", "pz"} {
			testTruth(t, graph, fair, wayFormulas(), byLassos(statesOf(graph), fair, 4))
		}
	}
}

// lottery makes numbers that look like chance and are the same in every run.
type lottery struct{ last uint64 }

func (l *lottery) below(bound int) int {
	l.last = l.last*6364136223846793005 + 1442695040888963407
	return int((l.last >> 33) % uint64(bound))
}

// graph makes one of so many states, where each edge is there by one chance
// in so many, and each mark by one in three.
func (l *lottery) graph(count, chances int) string {
	out := ""
	for range count {
		for _, mark := range []string{"f", "g", "p", "q"} {
			if l.below(3) == 0 {
				out += mark
			}
		}
		out += ">"
		for next := range count {
			if l.below(chances) == 0 {
				out += fmt.Sprint(next)
			}
		}
		out += ";"
	}
	return out
}

func TestSolveTriplesByLassos(t *testing.T) {
	var l lottery
	for range 60 {
		graph := l.graph(3, 2)
		for _, fair := range []string{"", "f", "fg"} {
			testTruth(t, graph, fair, wayFormulas(), byLassos(statesOf(graph), fair, 7))
		}
	}
}

func TestSolveGraphsByFixpoints(t *testing.T) {
	var l lottery
	for range 600 {
		graph := l.graph(1+l.below(6), 2+l.below(4))
		for _, fair := range []string{"", "f", "q", "fg", "pq", "gz"} {
			testTruth(t, graph, fair, wayFormulas(), byFixpoints(statesOf(graph), fair))
		}
	}
}
