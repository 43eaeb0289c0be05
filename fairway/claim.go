package fairway

// claim is that a formula holds in a state, as far as it can be shown by
// ways.
type claim struct {
	err   Errno // OK, or why nothing can be shown: then the rest is empty
	ways  fairWays
	tree  formulaTree // pushed, and without A
	state int
}

// loadClaim reads the texts as Solve does, and looks at the state and at the
// pushed formula.
func loadClaim(graph string, fair string, formula string, state int) claim {
	asked := loadQuestion(graph, fair, formula)
	if asked.err != OK {
		return claim{err: asked.err}
	}
	if state < 0 || state >= asked.ways.states.count {
		return claim{err: ErrArg}
	}
	tree := asked.tree.pushed()
	if tree.hasAll() {
		return claim{err: ErrAll}
	}
	return claim{ways: asked.ways, tree: tree, state: state}
}

// isShownBy tells whether a text is a certificate of the claim.
func (c *claim) isShownBy(cert string) bool {
	reader := certReader{ways: c.ways, nodes: c.tree.nodes, text: cert}
	if !reader.pass(c.tree.root, c.state) {
		return false
	}
	return reader.place == len(cert)
}

// shown tells a certificate of the claim, if it is true.
func (c *claim) shown() (string, Errno) {
	sets := c.ways.holdings(c.tree.nodes)
	if !sets[c.tree.root][c.state] {
		return "", ErrFalse
	}
	writer := certWriter{ways: c.ways, nodes: c.tree.nodes, sets: sets}
	writer.write(c.tree.root, c.state)
	return string(writer.text), OK
}
