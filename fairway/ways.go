package fairway

const maxFair = 2

// stateSet tells of each state whether it is in the set. What it tells of
// numbers that are no state's does not count: no edge goes from or to them.
type stateSet [maxStates]bool

// stepTable tells from which state one can come to which.
type stepTable [maxStates][maxStates]bool

// fairWays are the fair ways through a graph.
type fairWays struct {
	states graphStates
	fair   string
	begin  stateSet // the states from which a fair way goes
}

// areFairMarks tells whether a text is one of fair marks.
func areFairMarks(text string) bool {
	return len(text) <= maxFair && skipMarks(text, 0) == len(text)
}

// waysThrough tells the fair ways through a graph.
func waysThrough(states graphStates, fair string) fairWays {
	ways := fairWays{states: states, fair: fair}
	ways.begin = ways.staying(others(stateSet{}))
	return ways
}

// onSomeWay tells in which states EX of the left part, or E with the sign U
// or R between the two, holds. What comes behind the place that settles it
// has only to be fair, and whether a way is fair hangs on its end alone: so
// any fair way from that place will do.
func (w *fairWays) onSomeWay(sign byte, left stateSet, right stateSet) stateSet {
	switch sign {
	case 'X':
		return w.ahead(both(left, w.begin))
	case 'U':
		return w.reaching(left, both(right, w.begin))
	}
	released := both(left, right)
	settled := w.reaching(right, both(released, w.begin))
	return either(settled, w.staying(right))
}

// ahead tells the states that have a next state in the goal.
func (w *fairWays) ahead(goal stateSet) stateSet {
	var found stateSet
	for state := 0; state < maxStates; state++ {
		for number := 0; number < maxStates; number++ {
			if w.states.next[state][number] && goal[number] {
				found[state] = true
			}
		}
	}
	return found
}

// reaching tells the states in the goal, and those from which one can come to
// it through states of the set alone.
func (w *fairWays) reaching(through stateSet, goal stateSet) stateSet {
	return w.reachingIn(maxStates-1, through, goal)
}

// reachingIn tells of these states those from which the goal is at most so
// many edges away.
func (w *fairWays) reachingIn(most int, through stateSet, goal stateSet) stateSet {
	found := goal
	for edges := 1; edges <= most; edges++ {
		found = either(found, both(through, w.ahead(found)))
	}
	return found
}

// staying tells the states from which a fair way goes that never leaves the
// set: it ends in going round, since the states are so few.
func (w *fairWays) staying(within stateSet) stateSet {
	steps := w.stepsWithin(within)
	return w.reaching(within, w.rounds(steps))
}

// rounds tells the states at which one can go round fairly by these steps.
func (w *fairWays) rounds(steps stepTable) stateSet {
	var found stateSet
	for state := 0; state < maxStates; state++ {
		found[state] = w.goesRound(steps, state)
	}
	return found
}

// stepsWithin tells from which state one can come to which, by one edge or
// more, without leaving the set.
func (w *fairWays) stepsWithin(within stateSet) stepTable {
	var steps stepTable
	for from := 0; from < maxStates; from++ {
		for to := 0; to < maxStates; to++ {
			steps[from][to] = w.states.next[from][to] && within[from] && within[to]
		}
	}
	for middle := 0; middle < maxStates; middle++ {
		steps = joinedAt(steps, middle)
	}
	return steps
}

// joinedAt adds to the steps what one can come to by way of the state in the
// middle.
func joinedAt(steps stepTable, middle int) stepTable {
	for from := 0; from < maxStates; from++ {
		for to := 0; to < maxStates; to++ {
			if steps[from][middle] && steps[middle][to] {
				steps[from][to] = true
			}
		}
	}
	return steps
}

// goesRound tells whether by these steps one can come from a state to itself
// again and again and meet every fair mark on the way round.
func (w *fairWays) goesRound(steps stepTable, state int) bool {
	if !steps[state][state] {
		return false
	}
	round := around(steps, state)
	for place := 0; place < len(w.fair); place++ {
		met := both(round, w.bearing(w.fair[place]))
		if met == (stateSet{}) {
			return false
		}
	}
	return true
}

// around tells the states to which by these steps one can come from a state,
// and back again.
func around(steps stepTable, state int) stateSet {
	var found stateSet
	for number := 0; number < maxStates; number++ {
		found[number] = steps[state][number] && steps[number][state]
	}
	return found
}

func both(one stateSet, other stateSet) stateSet {
	var found stateSet
	for state := 0; state < maxStates; state++ {
		found[state] = one[state] && other[state]
	}
	return found
}

func either(one stateSet, other stateSet) stateSet {
	var found stateSet
	for state := 0; state < maxStates; state++ {
		found[state] = one[state] || other[state]
	}
	return found
}

// others tells the states that are not in the set.
func others(set stateSet) stateSet {
	var found stateSet
	for state := 0; state < maxStates; state++ {
		found[state] = !set[state]
	}
	return found
}
