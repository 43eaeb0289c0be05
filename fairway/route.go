package fairway

// Here lassos are made. A path takes at most maxStates-1 edges, since a
// shortest one comes to no state twice. A lasso consists of its first state
// and at most five paths: to the place that settles its formula, to the
// round, to each of two fair marks, and to the end of the round. So it lists
// at most 26 places, and there is always room for one more.

// addPath leads a lasso on, by a shortest path through states of the set
// alone, to the goal. The caller has made sure that there is a path.
func (w *fairWays) addPath(way *lasso, through stateSet, goal stateSet) {
	for edges := maxStates - 1; edges > 0; edges-- {
		nearer := w.reachingIn(edges-1, through, goal)
		state := way.last()
		if !nearer[state] {
			following := w.nextIn(state, nearer)
			way.add(following)
		}
	}
}

// nextIn tells a next state of a state in the goal. The caller has made sure
// that there is one.
func (w *fairWays) nextIn(state int, goal stateSet) int {
	for number := 0; number < maxStates; number++ {
		if w.states.next[state][number] && goal[number] {
			return number
		}
	}
	return state
}

// addFairEnd leads a lasso on, without leaving the set, to a state at which
// one can go round fairly, and goes round there. The caller has made sure
// that from its last state a fair way goes that never leaves the set.
func (w *fairWays) addFairEnd(way *lasso, within stateSet) {
	steps := w.stepsWithin(within)
	w.addPath(way, within, w.rounds(steps))
	w.addRound(way, steps)
}

// addRound goes from a lasso's last state to each fair mark that the round
// has not met yet, and on to a state from which an edge leads back.
func (w *fairWays) addRound(way *lasso, steps stepTable) {
	first := way.last()
	round := around(steps, first)
	way.loop = way.count - 1
	for place := 0; place < len(w.fair); place++ {
		mark := w.fair[place]
		if !w.meetsAgain(*way, mark) {
			w.addPath(way, round, both(round, w.bearing(mark)))
		}
	}
	var start stateSet
	start[first] = true
	w.addPath(way, round, both(round, w.ahead(start)))
}
