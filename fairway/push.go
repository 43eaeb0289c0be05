package fairway

// pushed tells the formula that a formula becomes when it is pushed.
func (t *formulaTree) pushed() formulaTree {
	var made formulaTree
	root := t.pushInto(&made, t.root, false)
	made.root = root
	return made
}

// pushInto lays down in another tree what a node becomes when it is pushed,
// or, if negated, what its negation becomes, and tells its number there.
func (t *formulaTree) pushInto(made *formulaTree, number int, negated bool) int {
	whole := t.nodes[number]
	switch whole.sign {
	case '!':
		return t.pushInto(made, whole.left, !negated)
	case 'X':
		whole.left = t.pushInto(made, whole.left, negated)
	case '&', '+', 'U', 'R':
		whole.left = t.pushInto(made, whole.left, negated)
		whole.right = t.pushInto(made, whole.right, negated)
	default:
		return made.addLeaf(whole, negated)
	}
	if negated {
		whole.sign = opposite(whole.sign)
		whole.ways = opposite(whole.ways)
	}
	return made.add(whole)
}

// addLeaf lays down T or a letter, if negated with ! ahead of it, and tells
// its number.
func (t *formulaTree) addLeaf(leaf node, negated bool) int {
	number := t.add(leaf)
	if !negated {
		return number
	}
	return t.add(node{sign: '!', left: number})
}

// add lays down a node, and tells its number.
func (t *formulaTree) add(whole node) int {
	t.nodes = append(t.nodes, whole)
	return len(t.nodes) - 1
}

func opposite(sign byte) byte {
	switch sign {
	case '&':
		return '+'
	case '+':
		return '&'
	case 'U':
		return 'R'
	case 'R':
		return 'U'
	case 'E':
		return 'A'
	case 'A':
		return 'E'
	}
	return sign
}

// text tells how a node is written.
func (t *formulaTree) text(number int) string {
	whole := t.nodes[number]
	switch whole.sign {
	case '!':
		return "!" + t.text(whole.left)
	case '&', '+':
		return "(" + t.textOfTwo(whole) + ")"
	case 'X':
		return string(whole.ways) + "X" + t.text(whole.left)
	case 'U', 'R':
		return string(whole.ways) + "[" + t.textOfTwo(whole) + "]"
	}
	return string(whole.sign)
}

// textOfTwo tells what stands within the brackets of a node of two parts.
func (t *formulaTree) textOfTwo(whole node) string {
	left := t.text(whole.left)
	right := t.text(whole.right)
	return left + string(whole.sign) + right
}

// hasAll tells whether a formula speaks of all ways somewhere.
func (t *formulaTree) hasAll() bool {
	for number := 0; number < len(t.nodes); number++ {
		if t.nodes[number].ways == 'A' {
			return true
		}
	}
	return false
}
