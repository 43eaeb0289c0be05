// Package fairway: what is so on fair ways through a graph, and how it is shown: see DOC.md.
package fairway

// Errno is what a call answers: OK or the reason for a refusal.
type Errno int

const (
	OK         Errno = 0
	ErrLong    Errno = 1 // a text above its bound
	ErrGraph   Errno = 2 // no graph
	ErrState   Errno = 3 // a next state that there is not
	ErrFair    Errno = 4 // no fair marks
	ErrFormula Errno = 5 // no formula
	ErrNest    Errno = 6 // too much of E and A within one another
	ErrArg     Errno = 7 // no such state
	ErrAll     Errno = 8 // a formula that speaks of all ways
	ErrFalse   Errno = 9 // a formula that does not hold
)

// Check tells whether a text is a graph (P3).
func Check(graph string) (Errno, int) {
	states := loadGraph(graph)
	return states.err, states.where
}

// Form tells whether a text is a formula (P4).
func Form(formula string) (Errno, int) {
	tree := loadFormula(formula)
	return tree.err, tree.where
}

// Push pushes negations to the letters (P5).
func Push(formula string) (string, Errno) {
	tree := loadFormula(formula)
	if tree.err != OK {
		return "", tree.err
	}
	pushed := tree.pushed()
	return pushed.text(pushed.root), OK
}

// Solve tells in which states a formula holds (P6).
func Solve(graph string, fair string, formula string) (string, Errno) {
	asked := loadQuestion(graph, fair, formula)
	if asked.err != OK {
		return "", asked.err
	}
	return asked.answer(), OK
}

// Replay tells whether a text is a certificate (P7).
func Replay(graph string, fair string, formula string, state int, cert string) (bool, Errno) {
	if len(cert) > maxCert {
		return false, ErrLong
	}
	said := loadClaim(graph, fair, formula, state)
	if said.err != OK {
		return false, said.err
	}
	return said.isShownBy(cert), OK
}

// Show makes a certificate (P8).
func Show(graph string, fair string, formula string, state int) (string, Errno) {
	said := loadClaim(graph, fair, formula, state)
	if said.err != OK {
		return "", said.err
	}
	return said.shown()
}
