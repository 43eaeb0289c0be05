package fairway

const maxCert = 4000000

// certReader reads a certificate from left to right. At each byte the formula
// tells what may stand there, so that it never has to go back.
type certReader struct {
	ways  fairWays
	nodes []node // of a pushed formula without A
	text  string
	place int
}

// pass goes past a certificate that a node holds in a state, and tells
// whether one begins at the reader's place.
func (r *certReader) pass(number int, state int) bool {
	whole := r.nodes[number]
	switch whole.sign {
	case '&':
		return r.passBoth(whole, state)
	case '+':
		return r.passOne(whole, state)
	case 'X':
		return r.passNext(whole, state)
	case 'U':
		return r.passUntil(whole, state)
	case 'R':
		return r.passRelease(whole, state)
	}
	if !r.skip('.') {
		return false
	}
	return r.isSo(number, state)
}

// isSo tells whether T or a letter, or one with ! ahead of it, holds in a
// state.
func (r *certReader) isSo(number int, state int) bool {
	whole := r.nodes[number]
	if whole.sign == '!' {
		return !r.isSo(whole.left, state)
	}
	return whole.sign == 'T' || r.ways.states.bears(state, whole.sign)
}

func (r *certReader) passBoth(whole node, state int) bool {
	if !r.skip('&') {
		return false
	}
	if !r.pass(whole.left, state) {
		return false
	}
	return r.pass(whole.right, state)
}

func (r *certReader) passOne(whole node, state int) bool {
	if r.skip('<') {
		return r.pass(whole.left, state)
	}
	if r.skip('>') {
		return r.pass(whole.right, state)
	}
	return false
}

func (r *certReader) passNext(whole node, state int) bool {
	way, ok := r.readLasso(state)
	if !ok {
		return false
	}
	second := way.after(0)
	return r.pass(whole.left, way.listed[second])
}

func (r *certReader) passUntil(whole node, state int) bool {
	way, ok := r.readLasso(state)
	if !ok {
		return false
	}
	below, ok := r.passPlaces(whole.left, way)
	if !ok || below == way.count {
		return false
	}
	if !r.skip('-') {
		return false
	}
	return r.pass(whole.right, way.listed[below])
}

func (r *certReader) passRelease(whole node, state int) bool {
	way, ok := r.readLasso(state)
	if !ok {
		return false
	}
	shown, ok := r.passPlaces(whole.right, way)
	if !ok || shown == 0 {
		return false
	}
	if r.skip('o') {
		return shown == way.count
	}
	if !r.skip('-') {
		return false
	}
	return r.pass(whole.left, way.listed[shown-1])
}

// passPlaces goes past the certificates, each behind a comma, that a node
// holds in the states at the listed places from 0 on, and tells at how many.
func (r *certReader) passPlaces(number int, way lasso) (int, bool) {
	place := 0
	for place < way.count && r.skip(',') {
		if !r.pass(number, way.listed[place]) {
			return 0, false
		}
		place++
	}
	return place, true
}

// readLasso reads a lasso of the graph, with the fair marks, from a state.
func (r *certReader) readLasso(state int) (lasso, bool) {
	var way lasso
	if !r.skip('[') {
		return way, false
	}
	r.readListed(&way)
	way.loop = way.count
	if !r.skip('(') {
		return way, false
	}
	r.readListed(&way)
	if !r.skip(')') {
		return way, false
	}
	if !r.skip(']') {
		return way, false
	}
	if way.loop == way.count || way.listed[0] != state {
		return way, false
	}
	return way, r.ways.isFairWay(way)
}

// readListed reads digits that are states, as far as there is room for them.
func (r *certReader) readListed(way *lasso) {
	for r.place < len(r.text) && way.count < maxLasso {
		number := int(r.text[r.place]) - '0'
		if number < 0 || number >= r.ways.states.count {
			return
		}
		way.add(number)
		r.place++
	}
}

// skip goes past this byte if it stands at the reader's place.
func (r *certReader) skip(sign byte) bool {
	if !stands(r.text, r.place, sign) {
		return false
	}
	r.place++
	return true
}
