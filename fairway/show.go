package fairway

// certWriter writes a certificate from left to right. It is asked for what
// holds alone. Even if each lasso had maxLasso digits, no formula of
// maxFormula bytes would need 600000 bytes, so that maxCert is never reached.
type certWriter struct {
	ways  fairWays
	nodes []node     // of a pushed formula without A
	sets  []stateSet // of each node, the states in which it holds
	text  []byte
}

// write adds a certificate that a node holds in a state.
func (c *certWriter) write(number int, state int) {
	whole := c.nodes[number]
	switch whole.sign {
	case '&':
		c.put('&')
		c.write(whole.left, state)
		c.write(whole.right, state)
	case '+':
		c.writeOne(whole, state)
	case 'X':
		c.writeNext(whole, state)
	case 'U':
		c.writeUntil(whole, state)
	case 'R':
		c.writeRelease(whole, state)
	default:
		c.put('.')
	}
}

func (c *certWriter) writeOne(whole node, state int) {
	if c.sets[whole.left][state] {
		c.put('<')
		c.write(whole.left, state)
		return
	}
	c.put('>')
	c.write(whole.right, state)
}

func (c *certWriter) writeNext(whole node, state int) {
	goal := both(c.sets[whole.left], c.ways.begin)
	second := c.ways.nextIn(state, goal)
	way := lassoFrom(state)
	way.add(second)
	c.writeOnward(way)
	c.write(whole.left, second)
}

func (c *certWriter) writeUntil(whole node, state int) {
	goal := both(c.sets[whole.right], c.ways.begin)
	way := lassoFrom(state)
	c.ways.addPath(&way, c.sets[whole.left], goal)
	c.writeOnward(way)
	c.writePlaces(whole.left, way, way.count-1)
	c.put('-')
	c.write(whole.right, way.last())
}

// writeRelease comes to a place at which both parts hold, if it can, since at
// most maxStates places lead up to it: a way that stays with the right part
// for ever may list many more.
func (c *certWriter) writeRelease(whole node, state int) {
	right := c.sets[whole.right]
	goal := both(both(c.sets[whole.left], right), c.ways.begin)
	settled := c.ways.reaching(right, goal)
	way := lassoFrom(state)
	if !settled[state] {
		c.ways.addFairEnd(&way, right)
		c.writeLasso(way)
		c.writePlaces(whole.right, way, way.count)
		c.put('o')
		return
	}
	c.ways.addPath(&way, right, goal)
	c.writeOnward(way)
	c.writePlaces(whole.right, way, way.count)
	c.put('-')
	c.write(whole.left, way.last())
}

// writeOnward adds a lasso that begins with this path, and leaves the path of
// the caller as it is. A fair way keeps to the states from which one goes.
func (c *certWriter) writeOnward(path lasso) {
	c.ways.addFairEnd(&path, c.ways.begin)
	c.writeLasso(path)
}

// writePlaces adds certificates, each behind a comma, that a node holds in
// the states at so many listed places from 0 on.
func (c *certWriter) writePlaces(number int, way lasso, count int) {
	for place := 0; place < count; place++ {
		c.put(',')
		c.write(number, way.listed[place])
	}
}

func (c *certWriter) writeLasso(way lasso) {
	c.put('[')
	for place := 0; place < way.count; place++ {
		if place == way.loop {
			c.put('(')
		}
		c.put('0' + byte(way.listed[place]))
	}
	c.put(')')
	c.put(']')
}

func (c *certWriter) put(sign byte) {
	c.text = append(c.text, sign)
}
