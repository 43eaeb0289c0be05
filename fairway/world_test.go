package fairway_test

import (
	"fmt"
	"regexp"
	"strings"
)

// world is a graph with fair marks, for judging and making certificates by
// the words of the table.
type world struct {
	states []stateText
	fair   string
}

func worldOf(graph, fair string) world {
	return world{statesOf(graph), fair}
}

// partsOf are the sign of a pushed formula without A, and its parts.
func partsOf(formula string) (sign byte, left, right string) {
	switch formula[0] {
	case '(':
		left = firstOf(formula[1:])
		return formula[1+len(left)], left, formula[2+len(left) : len(formula)-1]
	case 'E':
		if formula[1] == 'X' {
			return 'X', formula[2:], "T"
		}
		left = firstOf(formula[2:])
		return formula[2+len(left)], left, formula[3+len(left) : len(formula)-1]
	}
	return '.', formula, "T"
}

// firstOf is the formula that a text begins with.
func firstOf(text string) string {
	switch {
	case text[0] == '!':
		return text[:2]
	case strings.HasPrefix(text, "EX"):
		return "EX" + firstOf(text[2:])
	case text[0] != '(' && text[0] != 'E':
		return text[:1]
	}
	depth := 0
	for i := range len(text) {
		depth += strings.Count("([", text[i:i+1]) - strings.Count(")]", text[i:i+1])
		if depth == 0 && strings.Contains(")]", text[i:i+1]) {
			return text[:i+1]
		}
	}
	return text
}

// isSo tells whether T, a letter, or one with ! ahead of it holds in a state.
func (w world) isSo(leaf string, state int) bool {
	mark := strings.TrimPrefix(leaf, "!")
	return (mark == "T" || strings.Contains(w.states[state].marks, mark)) == (mark == leaf)
}

// rests are what may stand behind a certificate that a pushed formula holds
// in a state, if a text begins with one. It guesses place k.
func (w world) rests(formula string, state int, cert string) []string {
	sign, left, right := partsOf(formula)
	switch sign {
	case '.':
		if rest, ok := strings.CutPrefix(cert, "."); ok && w.isSo(left, state) {
			return []string{rest}
		}
		return nil
	case '&':
		return w.behind(w.behind(after("&", []string{cert}), left, state), right, state)
	case '+':
		one := w.behind(after("<", []string{cert}), left, state)
		other := w.behind(after(">", []string{cert}), right, state)
		return append(one, other...)
	}
	listed, rest, ok := w.lassoAhead(cert, state)
	if !ok {
		return nil
	}
	if sign == 'X' {
		return w.behind([]string{rest}, left, stateOf(listed+listed, 1))
	}
	return w.restsOfPlaces(sign, left, right, listed, rest)
}

func (w world) restsOfPlaces(sign byte, left, right, listed, rest string) []string {
	found := []string{}
	rests := []string{rest}
	for k := range len(listed) {
		state := stateOf(listed, k)
		if sign == 'U' {
			found = append(found, w.behind(after("-", rests), right, state)...)
			rests = w.behind(after(",", rests), left, state)
			continue
		}
		rests = w.behind(after(",", rests), right, state)
		found = append(found, w.behind(after("-", rests), left, state)...)
	}
	if sign == 'R' {
		found = append(found, after("o", rests)...)
	}
	return found
}

func stateOf(listed string, place int) int {
	return int(listed[place] - '0')
}

// after are what stands behind a sign in those of the texts that begin with
// it.
func after(sign string, texts []string) []string {
	found := []string{}
	for _, text := range texts {
		if rest, ok := strings.CutPrefix(text, sign); ok {
			found = append(found, rest)
		}
	}
	return found
}

// behind are what may stand behind a certificate at the beginning of one of
// the texts.
func (w world) behind(texts []string, formula string, state int) []string {
	found := []string{}
	for _, text := range texts {
		found = append(found, w.rests(formula, state, text)...)
	}
	return found
}

var lassoText = regexp.MustCompile(`^\[([0-5]*)\(([0-5]+)\)\]`)

// lassoAhead tells the listed places of the lasso that a text begins with,
// and what stands behind it.
func (w world) lassoAhead(cert string, state int) (listed, rest string, ok bool) {
	found := lassoText.FindStringSubmatch(cert)
	if found == nil || len(found[1])+len(found[2]) > 40 {
		return "", "", false
	}
	listed = found[1] + found[2]
	return listed, cert[len(found[0]):], w.isLasso(listed, found[2], state)
}

func (w world) isLasso(listed, loop string, state int) bool {
	round := listed + loop[:1]
	marks := ""
	for i := range len(listed) {
		from := stateOf(round, i)
		if from >= len(w.states) || !strings.Contains(w.states[from].next, round[i+1:i+2]) {
			return false
		}
		if i >= len(listed)-len(loop) {
			marks += w.states[from].marks
		}
	}
	for _, mark := range w.fair {
		if !strings.ContainsRune(marks, mark) {
			return false
		}
	}
	return stateOf(listed, 0) == state
}

// makeCert makes a certificate that a pushed formula holds in a state, with
// choices by lot, if there is one with short lassos.
func (w world) makeCert(l *lottery, formula string, state int) (string, bool) {
	if !w.holds(formula, state) {
		return "", false
	}
	sign, left, right := partsOf(formula)
	switch sign {
	case '.':
		return ".", true
	case '&':
		return w.makeEach(l, "&", left, []int{state}, "", right, state)
	case '+':
		if w.holds(left, state) && (l.below(2) == 0 || !w.holds(right, state)) {
			return w.makeEach(l, "", "", nil, "<", left, state)
		}
		return w.makeEach(l, "", "", nil, ">", right, state)
	}
	lassos := fairLassos(w.states, w.fair, state, 5)
	for range 200 {
		if len(lassos) == 0 {
			return "", false
		}
		way := lassos[l.below(len(lassos))]
		k := l.below(len(way.states))
		cert, made := w.makeOnWay(l, sign, left, right, way, k)
		if made {
			return way.text() + cert, true
		}
	}
	return "", false
}

func (w world) makeOnWay(l *lottery, sign byte, left, right string, way lasso, k int) (string, bool) {
	listed := way.states
	switch {
	case sign == 'X':
		return w.makeCert(l, left, listed[min(1, len(listed)-1)])
	case sign == 'U':
		return w.makeEach(l, ",", left, listed[:k], "-", right, listed[k])
	case l.below(2) == 0:
		return w.makeEach(l, ",", right, listed, "o", "", 0)
	}
	return w.makeEach(l, ",", right, listed[:k+1], "-", left, listed[k])
}

// makeEach makes certificates of a formula, each behind a sign, for each of
// the states, and behind them a sign and a certificate of one formula more,
// if there is one.
func (w world) makeEach(l *lottery, sign, formula string, states []int, lastSign, last string, lastState int) (string, bool) {
	out := ""
	for _, state := range states {
		cert, made := w.makeCert(l, formula, state)
		if !made {
			return "", false
		}
		out += sign + cert
	}
	if last == "" {
		return out + lastSign, true
	}
	cert, made := w.makeCert(l, last, lastState)
	return out + lastSign + cert, made
}

func (w world) holds(formula string, state int) bool {
	set, _ := truth(w.states, formula, byFixpoints(w.states, w.fair))
	return set[state]
}

// text is how a lasso is written.
func (l lasso) text() string {
	out := "["
	for place, state := range l.states {
		if place == l.loop {
			out += "("
		}
		out += fmt.Sprint(state)
	}
	return out + ")]"
}

// changed is a text with one byte left out, put in, or exchanged.
func (l *lottery) changed(text string) string {
	const letters = ".&<>[()],-o0123456"
	place := l.below(len(text) + 1)
	byLot := letters[l.below(len(letters))]
	before, behind := text[:place], text[place:]
	if behind != "" && l.below(3) > 0 {
		behind = behind[1:]
		if l.below(2) == 0 {
			return before + behind
		}
	}
	return before + string(byLot) + behind
}
