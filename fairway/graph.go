package fairway

const (
	maxGraph  = 210
	maxStates = 6
)

// graphStates is what reading a text as a graph came to.
type graphStates struct {
	err   Errno // OK, or why the text is refused: then there are no states
	where int   // what Check tells beside err
	count int
	marks [maxStates]string
	next  [maxStates][maxStates]bool
}

// loadGraph reads a text as a graph within the limits.
func loadGraph(text string) graphStates {
	if len(text) > maxGraph {
		return graphStates{err: ErrLong}
	}
	var states graphStates
	place, ok := states.readStates(text)
	if !ok {
		return graphStates{err: ErrGraph, where: place}
	}
	state, astray := states.firstAstray()
	if astray {
		return graphStates{err: ErrState, where: state}
	}
	return states
}

// readStates reads all states of a text, and tells the place behind them or
// the place at fault. Whether the next states exist is left open, since it
// can only be told once all states have been counted.
func (g *graphStates) readStates(text string) (int, bool) {
	place := 0
	for g.count < maxStates {
		behind, ok := g.readState(text, place)
		if !ok || behind == len(text) {
			return behind, ok
		}
		place = behind
	}
	return place, false
}

// readState reads the state that begins at place. The caller has made sure
// that there is room for one more. The answer is the place behind the state,
// or the place at fault.
func (g *graphStates) readState(text string, place int) (int, bool) {
	arrow := skipMarks(text, place)
	if !stands(text, arrow, '>') {
		return arrow, false
	}
	end := g.readNext(text, arrow+1)
	if !stands(text, end, ';') {
		return end, false
	}
	g.marks[g.count] = text[place:arrow]
	g.count++
	return end + 1, true
}

// skipMarks tells the place behind the letters in rising order that begin at
// place.
func skipMarks(text string, place int) int {
	lowest := byte('a')
	for place < len(text) && text[place] >= lowest && text[place] <= 'z' {
		lowest = text[place] + 1
		place++
	}
	return place
}

// readNext reads the digits in rising order that begin at place as the next
// states of the state that is being read, and tells the place behind them.
func (g *graphStates) readNext(text string, place int) int {
	lowest := 0
	for place < len(text) {
		number := int(text[place]) - '0'
		if number < lowest || number >= maxStates {
			return place
		}
		g.next[g.count][number] = true
		lowest = number + 1
		place++
	}
	return place
}

// stands tells whether the text has this byte at place.
func stands(text string, place int, sign byte) bool {
	return place < len(text) && text[place] == sign
}

// firstAstray tells the first state with a next state that there is not.
func (g *graphStates) firstAstray() (int, bool) {
	for state := 0; state < g.count; state++ {
		for number := g.count; number < maxStates; number++ {
			if g.next[state][number] {
				return state, true
			}
		}
	}
	return 0, false
}

// bears tells whether a state has this mark.
func (g *graphStates) bears(state int, mark byte) bool {
	marks := g.marks[state]
	for place := 0; place < len(marks); place++ {
		if marks[place] == mark {
			return true
		}
	}
	return false
}
