package fairway

// question is what reading a graph, fair marks and a formula came to.
type question struct {
	err  Errno // OK, or why one of the texts is refused: then the rest is empty
	ways fairWays
	tree formulaTree
}

// loadQuestion reads the three texts. The lengths come first, since a text
// that is too long outdoes every other fault.
func loadQuestion(graph string, fair string, formula string) question {
	if len(graph) > maxGraph || len(formula) > maxFormula {
		return question{err: ErrLong}
	}
	states := loadGraph(graph)
	if states.err != OK {
		return question{err: states.err}
	}
	if !areFairMarks(fair) {
		return question{err: ErrFair}
	}
	tree := loadFormula(formula)
	if tree.err != OK {
		return question{err: tree.err}
	}
	return question{ways: waysThrough(states, fair), tree: tree}
}

// answer tells of each state, as 1 or 0, whether the formula holds in it.
func (q *question) answer() string {
	sets := q.ways.holdings(q.tree.nodes)
	set := sets[q.tree.root]
	text := ""
	for state := 0; state < q.ways.states.count; state++ {
		if set[state] {
			text += "1"
		} else {
			text += "0"
		}
	}
	return text
}

// holdings tells of each node in which states it holds. The parts of a node
// lie ahead of it, so that theirs are known when its turn comes.
func (w *fairWays) holdings(nodes []node) []stateSet {
	sets := make([]stateSet, len(nodes))
	for number := 0; number < len(nodes); number++ {
		whole := nodes[number]
		sets[number] = w.holding(whole, sets[whole.left], sets[whole.right])
	}
	return sets
}

// holding tells in which states a node holds, if these are the states in
// which its parts do.
func (w *fairWays) holding(whole node, left stateSet, right stateSet) stateSet {
	switch whole.sign {
	case 'T':
		return others(stateSet{})
	case '!':
		return others(left)
	case '&':
		return both(left, right)
	case '+':
		return either(left, right)
	case 'X', 'U', 'R':
		if whole.ways == 'A' {
			return w.onEveryWay(whole.sign, left, right)
		}
		return w.onSomeWay(whole.sign, left, right)
	}
	return w.bearing(whole.sign)
}

// onEveryWay tells in which states AX of the left part, or A with the sign U
// or R between the two, holds: where on no fair way its negation does.
func (w *fairWays) onEveryWay(sign byte, left stateSet, right stateSet) stateSet {
	negation := w.onSomeWay(opposite(sign), others(left), others(right))
	return others(negation)
}

// bearing tells the states that bear a mark.
func (w *fairWays) bearing(mark byte) stateSet {
	var found stateSet
	for state := 0; state < maxStates; state++ {
		found[state] = w.states.bears(state, mark)
	}
	return found
}
