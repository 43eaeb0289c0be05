package fairway

// pushed tells what a node becomes when it is pushed, or, if negated, what
// its negation becomes.
func (t *formulaTree) pushed(number int, negated bool) string {
	whole := t.nodes[number]
	ways := pushedSign(whole.ways, negated)
	switch whole.sign {
	case '!':
		return t.pushed(whole.left, !negated)
	case '&', '+':
		return "(" + t.pushedTwo(whole, negated) + ")"
	case 'X':
		return ways + "X" + t.pushed(whole.left, negated)
	case 'U', 'R':
		return ways + "[" + t.pushedTwo(whole, negated) + "]"
	}
	if negated {
		return "!" + string(whole.sign)
	}
	return string(whole.sign)
}

// pushedTwo tells what stands within the brackets of a node of two parts.
func (t *formulaTree) pushedTwo(whole node, negated bool) string {
	left := t.pushed(whole.left, negated)
	right := t.pushed(whole.right, negated)
	return left + pushedSign(whole.sign, negated) + right
}

// pushedSign tells what becomes of a sign that joins parts or speaks of ways.
func pushedSign(sign byte, negated bool) string {
	if negated {
		return string(opposite(sign))
	}
	return string(sign)
}

func opposite(sign byte) byte {
	switch sign {
	case '&':
		return '+'
	case '+':
		return '&'
	case 'U':
		return 'R'
	case 'R':
		return 'U'
	case 'E':
		return 'A'
	case 'A':
		return 'E'
	}
	return sign
}
