package check

import "gantline/tree"

// basic is a type without kids.
func basic(kind string) tree.Node { return tree.Node{Kind: kind} }

// element tells the type of what a list or a channel holds.
func element(t tree.Node) tree.Node {
	if t.Kind == "list" || t.Kind == "chan" {
		return t.Kids[0]
	}
	return tree.Node{}
}

// value tells the type of an expression that is wanted to have one: a call of what has no result has none.
func (c *checker) value(n tree.Node) tree.Node {
	t := c.expression(n)
	c.want(t.Kind != "none", n)
	return t
}

func (c *checker) expression(n tree.Node) tree.Node {
	switch n.Kind {
	case "number":
		return basic("int")
	case "true", "false":
		return basic("bool")
	case "nil":
		c.want(n.Kids[0].Kind != "int" && n.Kids[0].Kind != "bool", n)
		return n.Kids[0]
	case "name":
		return c.name(n)
	case "binary":
		return c.binary(n)
	case "unary":
		return c.unary(n)
	case "call":
		return c.call(n)
	case "index":
		return c.index(n)
	case "dot":
		return c.dot(n)
	case "new":
		t, ok := c.structs[n.Text]
		c.want(ok, n)
		return t
	case "make":
		return c.made(n)
	case "len":
		c.want(c.value(n.Kids[0]).Kind == "list", n)
		return basic("int")
	case "recv":
		t := c.value(n.Kids[0])
		c.want(t.Kind == "chan", n)
		return element(t)
	case "lambda":
		c.function(n)
		return fn(n)
	}
	return tree.Node{}
}

func (c *checker) name(n tree.Node) tree.Node {
	if v, ok := c.find(n.Text); ok {
		return v.typ
	}
	if t, ok := c.globals[n.Text]; ok {
		return t
	}
	t, ok := c.funcs[n.Text]
	c.want(ok, n)
	return t
}

func (c *checker) binary(n tree.Node) tree.Node {
	left, right := c.value(n.Kids[0]), c.value(n.Kids[1])
	same := tree.Same(left, right)
	switch n.Text {
	case "==", "!=":
		c.want(same, n)
		return basic("bool")
	case "&&", "||":
		c.want(same && left.Kind == "bool", n)
		return basic("bool")
	}
	c.want(same && left.Kind == "int", n)
	switch n.Text {
	case "<", "<=", ">", ">=":
		return basic("bool")
	}
	return basic("int")
}

func (c *checker) unary(n tree.Node) tree.Node {
	t := basic("int")
	if n.Text == "!" {
		t = basic("bool")
	}
	c.want(c.value(n.Kids[0]).Kind == t.Kind, n)
	return t
}

// call tells the type of what is answered: none, where there is nothing.
func (c *checker) call(n tree.Node) tree.Node {
	var kids []tree.Node
	for _, kid := range n.Kids {
		kids = append(kids, c.value(kid))
	}
	f := kids[0]
	if f.Kind != "fn" || len(f.Kids) != len(kids) {
		c.want(false, n)
		return tree.Node{}
	}
	for i := 1; i < len(kids); i++ {
		c.want(tree.Same(kids[i], f.Kids[i]), n.Kids[i])
	}
	return f.Kids[0]
}

func (c *checker) index(n tree.Node) tree.Node {
	list, at := c.value(n.Kids[0]), c.value(n.Kids[1])
	c.want(list.Kind == "list", n)
	c.want(at.Kind == "int", n.Kids[1])
	return element(list)
}

func (c *checker) dot(n tree.Node) tree.Node {
	of := c.value(n.Kids[0])
	// Of all types, those alone that are named have a Text.
	t, ok := c.fields[member{of.Text, n.Text}]
	c.want(ok, n)
	return t
}

// made tells the type of a make, which names it.
func (c *checker) made(n tree.Node) tree.Node {
	t, many := n.Kids[0], c.value(n.Kids[1])
	c.want(t.Kind == "list" || t.Kind == "chan", n)
	c.want(many.Kind == "int", n.Kids[1])
	return t
}
