package check

import "gantline/tree"

// member is a field of a struct, by their names.
type member struct{ of, name string }

// checker walks over a program's tree, and holds its first fault.
type checker struct {
	faulty bool
	at     int

	structs map[string]tree.Node // their types, by their names
	fields  map[member]tree.Node // likewise
	globals map[string]tree.Node
	funcs   map[string]tree.Node
	scope

	inside int       // functions around what is looked at
	result tree.Node // of the innermost of them
}

func newChecker() *checker {
	return &checker{
		structs: make(map[string]tree.Node),
		fields:  make(map[member]tree.Node),
		globals: make(map[string]tree.Node),
		funcs:   make(map[string]tree.Node),
		scope:   scope{held: make(map[string][]variable)},
	}
}

// want asks for what a rule says; it is a fault at a node, if that is not so. What is asked behind a fault is of no more account.
func (c *checker) want(ok bool, n tree.Node) {
	if !ok && !c.faulty {
		c.faulty, c.at = true, n.At
	}
}

// names holds what the program declares, each name once.
func (c *checker) names(p tree.Node) {
	for _, n := range p.Kids {
		c.want(!c.declared(n.Text), n)
		switch n.Kind {
		case "struct":
			c.structs[n.Text] = tree.Node{Kind: "named", Text: n.Text}
		case "global":
			c.globals[n.Text] = n.Kids[0]
		case "func":
			c.funcs[n.Text] = fn(n)
		}
	}
	for _, n := range p.Kids {
		if n.Kind == "struct" {
			c.members(n)
		}
	}
}

// declared tells whether the program has declared such a name already.
func (c *checker) declared(name string) bool {
	_, isStruct := c.structs[name]
	_, isGlobal := c.globals[name]
	_, isFunc := c.funcs[name]
	return isStruct || isGlobal || isFunc
}

func (c *checker) members(n tree.Node) {
	for _, field := range n.Kids {
		m := member{n.Text, field.Text}
		_, again := c.fields[m]
		c.want(!again, field)
		c.fields[m] = field.Kids[0]
	}
}

// types wants the name of each type to be that of a struct, in the order of the tree.
func (c *checker) types(n tree.Node) {
	if n.Kind == "named" {
		_, ok := c.structs[n.Text]
		c.want(ok, n)
	}
	for _, kid := range n.Kids {
		c.types(kid)
	}
}

// main wants the function that a program begins with.
func (c *checker) main(p tree.Node) {
	end := p
	if len(p.Kids) > 0 {
		end = p.Kids[len(p.Kids)-1]
	}
	begin := tree.Node{Kind: "fn", Kids: []tree.Node{{Kind: "none"}}}
	c.want(tree.Same(c.funcs["main"], begin), end)
}

func (c *checker) functions(p tree.Node) {
	for _, n := range p.Kids {
		if n.Kind == "func" {
			c.function(n)
		}
	}
}

// function looks at a func or a lambda.
func (c *checker) function(n tree.Node) {
	params, result, block := n.Kids[0], n.Kids[1], n.Kids[2]
	outer := c.result
	c.result = result
	c.inside++
	c.open()
	for _, param := range params.Kids {
		c.declare(param, param.Kids[0])
	}
	c.statements(block.Kids)
	c.close()
	c.inside--
	c.result = outer
	c.want(result.Kind == "none" || Ends(block), n)
}

// fn tells the type of a func or a lambda.
func fn(n tree.Node) tree.Node {
	kids := []tree.Node{n.Kids[1]}
	for _, param := range n.Kids[0].Kids {
		kids = append(kids, param.Kids[0])
	}
	return tree.Node{Kind: "fn", Kids: kids}
}
