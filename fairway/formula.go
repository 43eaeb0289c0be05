package fairway

const (
	maxFormula = 30
	maxNest    = 3
)

// node is a formula whose parts are other nodes.
type node struct {
	sign  byte // T, a letter, or the sign that joins the parts: ! & + X U R
	ways  byte // E or A ahead of X, U and R
	left  int  // the part, or the first of two
	right int  // the second of two
	nest  int
}

// formulaTree is what reading a text as a formula came to. The parts of a
// node lie ahead of it, so that every walk from a node to its parts ends.
type formulaTree struct {
	err   Errno // OK, or why the text is refused: then there are no nodes
	where int   // what Form tells beside err
	nodes []node
	root  int
}

// formulaReader reads a formula from left to right. Where reading fails,
// place stays at the byte that cannot stand there, or at the text's end.
type formulaReader struct {
	text  string
	place int
	nodes []node
}

// loadFormula reads a text as a formula within the limits.
func loadFormula(text string) formulaTree {
	if len(text) > maxFormula {
		return formulaTree{err: ErrLong}
	}
	reader := formulaReader{text: text}
	root, ok := reader.readPart()
	if !ok || reader.place != len(text) {
		return formulaTree{err: ErrFormula, where: reader.place}
	}
	if reader.nodes[root].nest > maxNest {
		return formulaTree{err: ErrNest}
	}
	return formulaTree{nodes: reader.nodes, root: root}
}

// readPart reads the formula that begins at the reader's place, and tells the
// number of its node.
func (r *formulaReader) readPart() (int, bool) {
	if r.place >= len(r.text) {
		return 0, false
	}
	sign := r.text[r.place]
	switch {
	case sign == 'T' || isLetter(sign):
		r.place++
		return r.add(node{sign: sign}), true
	case sign == '!':
		r.place++
		return r.readOne(node{sign: sign})
	case sign == '(':
		r.place++
		return r.readTwo(node{}, '&', '+', ')')
	case sign == 'E' || sign == 'A':
		r.place++
		return r.readWays(sign)
	}
	return 0, false
}

// readWays reads what stands behind E or A.
func (r *formulaReader) readWays(ways byte) (int, bool) {
	if r.skip('X') {
		return r.readOne(node{sign: 'X', ways: ways})
	}
	if r.skip('[') {
		return r.readTwo(node{ways: ways}, 'U', 'R', ']')
	}
	return 0, false
}

// readOne reads the part of a node that has one.
func (r *formulaReader) readOne(whole node) (int, bool) {
	part, ok := r.readPart()
	if !ok {
		return 0, false
	}
	whole.left = part
	whole.nest = r.nodes[part].nest
	return r.add(whole), true
}

// readTwo reads the parts of a node that has two, with one of two signs
// between them and a bracket behind them.
func (r *formulaReader) readTwo(whole node, one byte, other byte, closing byte) (int, bool) {
	left, ok := r.readPart()
	if !ok {
		return 0, false
	}
	whole.sign = one
	if !r.skip(one) {
		whole.sign = other
		if !r.skip(other) {
			return 0, false
		}
	}
	right, ok := r.readPart()
	if !ok || !r.skip(closing) {
		return 0, false
	}
	whole.left = left
	whole.right = right
	whole.nest = greater(r.nodes[left].nest, r.nodes[right].nest)
	return r.add(whole), true
}

// skip goes past this byte if it stands at the reader's place.
func (r *formulaReader) skip(sign byte) bool {
	if !stands(r.text, r.place, sign) {
		return false
	}
	r.place++
	return true
}

// add lays down a node whose nest is still that of its parts, and tells its
// number.
func (r *formulaReader) add(whole node) int {
	if whole.ways != 0 {
		whole.nest++
	}
	r.nodes = append(r.nodes, whole)
	return len(r.nodes) - 1
}

func isLetter(sign byte) bool {
	return sign >= 'a' && sign <= 'z'
}

func greater(a int, b int) int {
	if a > b {
		return a
	}
	return b
}
