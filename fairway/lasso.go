package fairway

const maxLasso = 40

// lasso is a way: the states at its listed places, of which those from loop
// on come again and again.
type lasso struct {
	listed [maxLasso]int
	count  int
	loop   int
}

// lassoFrom begins a lasso at a state.
func lassoFrom(state int) lasso {
	var way lasso
	way.add(state)
	return way
}

// add lists one more state, if there is room for it.
func (l *lasso) add(state int) {
	if l.count < maxLasso {
		l.listed[l.count] = state
		l.count++
	}
}

// last tells the state at the last listed place of a lasso that has been
// begun.
func (l *lasso) last() int {
	return l.listed[l.count-1]
}

// after tells the listed place that is like the place behind this one.
func (l *lasso) after(place int) int {
	if place+1 == l.count {
		return l.loop
	}
	return place + 1
}

// isFairWay tells whether a lasso, whose digits are states, is one of the
// graph with the fair marks.
func (w *fairWays) isFairWay(way lasso) bool {
	for place := 0; place < way.count; place++ {
		from := way.listed[place]
		to := way.listed[way.after(place)]
		if !w.states.next[from][to] {
			return false
		}
	}
	for place := 0; place < len(w.fair); place++ {
		if !w.meetsAgain(way, w.fair[place]) {
			return false
		}
	}
	return true
}

// meetsAgain tells whether a state that comes again and again bears the mark.
func (w *fairWays) meetsAgain(way lasso, mark byte) bool {
	for place := way.loop; place < way.count; place++ {
		if w.states.bears(way.listed[place], mark) {
			return true
		}
	}
	return false
}
