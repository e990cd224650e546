package check_test

import (
	"strconv"
	"strings"
	"testing"

	"gantline/api"
	"gantline/check"
	"gantline/tree"
)

// nested is a node so many times within itself.
func nested(times int, inside tree.Node, around func(tree.Node) tree.Node) tree.Node {
	for range times {
		inside = around(inside)
	}
	return inside
}

// mainOf is a program with such statements in its main, none of which stands at 0.
func mainOf(statements ...tree.Node) tree.Node {
	return n("program", "", n("global", "gi", n("int", "")), n("func", "main", n("params", ""), n("none", ""), n("block", "", statements...)))
}

func wantAt(t *testing.T, what string, p tree.Node, want int) {
	t.Helper()
	e := api.OK
	if want != 0 {
		e = api.ETYPE
	}
	if at, got := check.Check(p); at != want || got != e {
		t.Errorf("Check of %s: error %d at %d, want %d at %d", what, got, at, e, want)
	}
}

const deep = 1<<16 - 8

// R1: what is as deep as can be.
func TestDeep(t *testing.T) {
	none, integer, truth, one := n("none", ""), n("int", ""), n("bool", ""), n("number", "1")
	yes, block := n("true", ""), n("block", "")
	bad := tree.Node{Kind: "name", Text: "y", At: 77}
	statements := map[string]func(tree.Node) tree.Node{
		"blocks": func(x tree.Node) tree.Node { return n("block", "", x) },
		"ifs":    func(x tree.Node) tree.Node { return n("if", "", yes, n("block", "", x), block) },
		"elses":  func(x tree.Node) tree.Node { return n("if", "", yes, block, n("block", "", x)) },
		"whiles": func(x tree.Node) tree.Node {
			return n("while", "", yes, n("block", "", n("let", "x", integer, one), x))
		},
		"cases": func(x tree.Node) tree.Node { return n("select", "", n("default", "", n("block", "", x))) },
	}
	for what, around := range statements {
		wantAt(t, what, mainOf(nested(deep/3, n("print", "", one), around)), 0)
		wantAt(t, what, mainOf(nested(deep/3, n("print", "", bad), around)), 77)
	}
	expressions := map[string]func(tree.Node) tree.Node{
		"signs":    func(x tree.Node) tree.Node { return n("unary", "-", x) },
		"sums":     func(x tree.Node) tree.Node { return n("binary", "+", x, one) },
		"sums too": func(x tree.Node) tree.Node { return n("binary", "*", one, x) },
		"indices":  func(x tree.Node) tree.Node { return n("index", "", n("nil", "", n("list", "", integer)), x) },
		"makes":    func(x tree.Node) tree.Node { return n("len", "", n("make", "", n("list", "", truth), x)) },
		"lambdas": func(x tree.Node) tree.Node {
			return n("call", "", n("lambda", "", n("params", ""), integer, n("block", "", n("return", "", x))))
		},
		"calls": func(x tree.Node) tree.Node { return n("call", "", n("nil", "", n("fn", "", integer, integer)), x) },
	}
	for what, around := range expressions {
		wantAt(t, what, mainOf(n("print", "", nested(deep/5, one, around))), 0)
		wantAt(t, what, mainOf(n("print", "", nested(deep/5, bad, around))), 77)
	}
	types := map[string]func(tree.Node) tree.Node{
		"lists":   func(x tree.Node) tree.Node { return n("list", "", x) },
		"chans":   func(x tree.Node) tree.Node { return n("chan", "", x) },
		"results": func(x tree.Node) tree.Node { return n("fn", "", x) },
		"params":  func(x tree.Node) tree.Node { return n("fn", "", none, x) },
	}
	for what, around := range types {
		typ, other := nested(deep, integer, around), nested(deep, truth, around)
		wantAt(t, what, mainOf(n("let", "x", typ, n("nil", "", typ))), 0)
		wantAt(t, what, mainOf(tree.Node{Kind: "let", Text: "x", At: 77, Kids: []tree.Node{typ, n("nil", "", other)}}), 77)
		wantAt(t, what, mainOf(n("let", "x", typ, n("nil", "", nested(deep, tree.Node{Kind: "named", Text: "No", At: 77}, around)))), 77)
	}
}

// R1: Ends, Type and Fields of what is as deep as can be.
func TestDeepParts(t *testing.T) {
	back, open := n("block", "", n("return", "", n("none", ""))), n("block", "")
	around := func(x tree.Node) tree.Node { return n("block", "", n("if", "", n("true", ""), x, back)) }
	if !check.Ends(nested(deep/2, back, around)) || check.Ends(nested(deep/2, open, around)) {
		t.Error("Ends of what is deep")
	}
	typ := nested(deep, n("int", ""), func(x tree.Node) tree.Node { return n("list", "", x) })
	if got := check.Type(typ); got != strings.Repeat("[]", 200) {
		t.Errorf("Type of what is deep: %s", short(got))
	}
	fields := check.Fields(n("program", "", n("struct", "S", n("field", "a", typ))), "S")
	if len(fields) != 1 || !tree.Same(fields[0].Kids[0], typ) {
		t.Error("Fields of what is deep")
	}
}

// R1: very many of each thing, with a fault at the last.
func TestMany(t *testing.T) {
	const many = 20000
	integer, one := n("int", ""), n("number", "1")
	var lets, params, args, globals, fields, cases, names []tree.Node
	for i := range many {
		name := "v" + strconv.Itoa(i)
		lets = append(lets, n("let", name, integer, one))
		names = append(names, n("set", "", n("name", name), n("name", name)))
		params = append(params, n("param", name, integer))
		args = append(args, one)
		globals = append(globals, n("global", name, integer))
		fields = append(fields, n("field", name, integer))
		cases = append(cases, n("onrecv", "v", n("nil", "", n("chan", "", integer)), n("block", "", n("print", "", n("name", "v")))))
	}
	begin := n("func", "main", n("params", ""), n("none", ""), n("block", ""))
	f := n("func", "f", n("params", "", params...), integer, n("block", "", append(names, n("return", "", one))...))
	call := n("do", "", n("call", "", append([]tree.Node{n("name", "f")}, args...)...))
	last := func(kind, name string) tree.Node {
		return tree.Node{Kind: kind, Text: name, At: 77, Kids: []tree.Node{integer}}
	}
	again := tree.Node{Kind: "let", Text: "v19999", At: 77, Kids: []tree.Node{integer, one}}
	second := tree.Node{Kind: "select", At: 77}
	for what, p := range map[string][2]tree.Node{
		"lets":    {mainOf(append(lets, names...)...), mainOf(append(lets[:many:many], again)...)},
		"globals": {n("program", "", append(globals, begin)...), n("program", "", append(globals[:many:many], last("global", "v0"), begin)...)},
		"fields":  {n("program", "", n("struct", "S", fields...), begin), n("program", "", n("struct", "S", append(fields, last("field", "v1"))...), begin)},
		"params":  {n("program", "", f, begin), n("program", "", n("func", "f", n("params", "", append(params, last("param", "v1"))...), n("none", ""), n("block", "")), begin)},
		"cases":   {mainOf(n("select", "", cases...)), mainOf(n("select", "", cases...), second)},
		"calls":   {n("program", "", f, n("func", "main", n("params", ""), n("none", ""), n("block", "", call, call))), n("program", "", f, n("func", "main", n("params", ""), n("none", ""), n("block", "", call, second)))},
	} {
		wantAt(t, what, p[0], 0)
		wantAt(t, what, p[1], 77)
	}
}
