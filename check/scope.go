package check

import "gantline/tree"

// variable is what a name stands for within functions.
type variable struct {
	typ    tree.Node
	blocks int // that were open where it was declared
	inside int // functions that were around it, its own too
}

// scope holds the variables of the blocks that are open.
type scope struct {
	held  map[string][]variable // by their names, the innermost last
	named [][]string            // of each block: its variables' names
}

func (s *scope) open() { s.named = append(s.named, nil) }

// close forgets what the innermost block has declared.
func (s *scope) close() {
	last := len(s.named) - 1
	for _, name := range s.named[last] {
		s.held[name] = s.held[name][:len(s.held[name])-1]
	}
	s.named = s.named[:last]
}

// find tells the innermost variable of a name; false, if there is none.
func (s *scope) find(name string) (variable, bool) {
	list := s.held[name]
	if len(list) == 0 {
		return variable{}, false
	}
	return list[len(list)-1], true
}

// declare puts a variable into the innermost block, where its name is wanted once.
func (c *checker) declare(n tree.Node, typ tree.Node) {
	blocks := len(c.named)
	v, ok := c.find(n.Text)
	c.want(!ok || v.blocks < blocks, n)
	c.held[n.Text] = append(c.held[n.Text], variable{typ, blocks, c.inside})
	c.named[blocks-1] = append(c.named[blocks-1], n.Text)
}
