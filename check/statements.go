package check

import "gantline/tree"

func (c *checker) block(n tree.Node) {
	c.open()
	c.statements(n.Kids)
	c.close()
}

func (c *checker) statements(list []tree.Node) {
	for _, n := range list {
		c.statement(n)
	}
}

func (c *checker) statement(n tree.Node) {
	switch n.Kind {
	case "block":
		c.block(n)
	case "let":
		c.want(tree.Same(c.value(n.Kids[1]), n.Kids[0]), n)
		c.declare(n, n.Kids[0])
	case "set":
		left := c.left(n.Kids[0])
		c.want(tree.Same(c.value(n.Kids[1]), left), n)
	case "if":
		c.truth(n.Kids[0])
		c.block(n.Kids[1])
		c.block(n.Kids[2]) // a none has no kids, as an empty block
	case "while":
		c.truth(n.Kids[0])
		c.block(n.Kids[1])
	case "return":
		c.returned(n)
	case "print":
		c.want(c.value(n.Kids[0]).Kind == "int", n.Kids[0])
	case "close":
		c.channel(n.Kids[0])
	case "go":
		c.want(c.call(n.Kids[0]).Kind == "none", n)
	case "send":
		c.send(n.Kids[0], n.Kids[1])
	case "select":
		c.choices(n)
	case "do":
		c.do(n)
	}
}

// left tells the type of what a set writes to.
func (c *checker) left(n tree.Node) tree.Node {
	switch n.Kind {
	case "index", "dot":
		return c.value(n)
	case "name":
		return c.settable(n)
	}
	c.want(false, n)
	return tree.Node{}
}

// settable tells the type of a name that may be set.
func (c *checker) settable(n tree.Node) tree.Node {
	if v, ok := c.find(n.Text); ok {
		c.want(v.inside == c.inside, n)
		return v.typ
	}
	typ, ok := c.globals[n.Text]
	c.want(ok, n)
	return typ
}

func (c *checker) truth(n tree.Node) { c.want(c.value(n).Kind == "bool", n) }

// channel wants one, and tells the type of what comes from it.
func (c *checker) channel(n tree.Node) tree.Node {
	t := c.value(n)
	c.want(t.Kind == "chan", n)
	return element(t)
}

func (c *checker) send(to, what tree.Node) {
	t := c.channel(to)
	c.want(tree.Same(c.value(what), t), what)
}

func (c *checker) returned(n tree.Node) {
	t := n.Kids[0]
	if t.Kind != "none" {
		t = c.value(t)
	}
	c.want(tree.Same(t, c.result), n)
}

func (c *checker) do(n tree.Node) {
	switch kid := n.Kids[0]; kid.Kind {
	case "call":
		c.call(kid)
	case "recv":
		c.value(kid)
	default:
		c.want(false, n)
	}
}

// choices looks at a select's cases.
func (c *checker) choices(n tree.Node) {
	c.want(len(n.Kids) > 0, n)
	defaults := 0
	for _, kid := range n.Kids {
		switch kid.Kind {
		case "onrecv":
			c.receiving(kid)
		case "onsend":
			c.send(kid.Kids[0], kid.Kids[1])
			c.block(kid.Kids[2])
		case "default":
			defaults++
			c.want(defaults == 1, kid)
			c.block(kid.Kids[0])
		}
	}
}

func (c *checker) receiving(n tree.Node) {
	t := c.channel(n.Kids[0])
	c.open()
	c.declare(n, t)
	c.statements(n.Kids[1].Kids)
	c.close()
}
