package tree_test

import (
	"slices"
	"strconv"
	"strings"
	"testing"

	"gantline/tree"
)

// n makes a node.
func n(kind, text string, kids ...tree.Node) tree.Node {
	return tree.Node{Kind: kind, Text: text, Kids: kids}
}

// Nodes that many tests put somewhere.
var (
	none    = n("none", "")
	integer = n("int", "")
	truth   = n("bool", "")
	a       = n("name", "a")
	two     = n("number", "2")
	empty   = n("block", "")
	prints  = n("block", "", n("print", "", two))
	noOne   = n("params", "")
)

// row is a row of the chapter's table: the kids that each such node has, in order, and those of which there may be any number behind them.
type row struct {
	kind string
	kids []string // each a list of Kinds, blanks between
	more string   // likewise; nothing, if there may be none
}

const (
	types       = "int bool named list chan fn"
	expressions = "number true false nil name binary unary call index dot new make len recv lambda"
	statements  = "block let set if while return print close go send select do"
)

// rows are the chapter's table.
func rows() []row {
	list := []row{
		{"program", nil, "struct global func"},
		{"struct", nil, "field"},
		{"func", []string{"params", types + " none", "block"}, ""},
		{"lambda", []string{"params", types + " none", "block"}, ""},
		{"params", nil, "param"},
		{"fn", []string{types + " none"}, types},
		{"block", nil, statements},
		{"let", []string{types, expressions}, ""},
		{"if", []string{expressions, "block", "block none"}, ""},
		{"while", []string{expressions, "block"}, ""},
		{"return", []string{expressions + " none"}, ""},
		{"go", []string{"call"}, ""},
		{"select", nil, "onrecv onsend default"},
		{"onrecv", []string{expressions, "block"}, ""},
		{"onsend", []string{expressions, expressions, "block"}, ""},
		{"default", []string{"block"}, ""},
		{"call", []string{expressions}, expressions},
		{"make", []string{types, expressions}, ""},
	}
	for kids, kinds := range map[string]string{
		"":                              "none int bool named number true false name new",
		types:                           "field global param list chan nil",
		expressions:                     "print close do unary dot len recv",
		expressions + "," + expressions: "set send binary index",
	} {
		for _, kind := range strings.Fields(kinds) {
			list = append(list, row{kind, split(kids), ""})
		}
	}
	slices.SortFunc(list, func(r, s row) int { return strings.Compare(r.kind, s.kind) })
	return list
}

// split cuts a text at its commas; nothing has no parts.
func split(text string) []string {
	if text == "" {
		return nil
	}
	return strings.Split(text, ",")
}

// rowOf tells a Kind's row; false, if there is none.
func rowOf(kind string) (row, bool) {
	list := rows()
	at := slices.IndexFunc(list, func(r row) bool { return r.kind == kind })
	if at < 0 {
		return row{}, false
	}
	return list[at], true
}

// kinds are those of the table.
func kinds() []string {
	var list []string
	for _, r := range rows() {
		list = append(list, r.kind)
	}
	return list
}

// strange are Kinds that the table does not have.
func strange() []string {
	return []string{"", "what", "Block", "block ", " int", "ints", "E", "statement", "type", "case", "else", "var", "string", "expr", "print\x00", "true false"}
}

// sample is a node of a Kind, such as fits; of a Kind that there is not it has no kids.
func sample(kind string) tree.Node {
	r, ok := rowOf(kind)
	made := n(kind, "t")
	if !ok {
		return made
	}
	for _, kids := range r.kids {
		made.Kids = append(made.Kids, sample(plainest(kids)))
	}
	if r.more != "" {
		made.Kids = append(made.Kids, sample(plainest(r.more)))
	}
	return made
}

// plainest is one of some Kinds, such as leads to no long tree.
func plainest(kinds string) string {
	for _, kind := range strings.Fields("name int global print default none") {
		if slices.Contains(strings.Fields(kinds), kind) {
			return kind
		}
	}
	return strings.Fields(kinds)[0]
}

// told is a text, or how it begins and ends, as it can be told.
func told(text string) string {
	if len(text) <= 300 {
		return strconv.Quote(text)
	}
	return strconv.Quote(text[:150]) + " .. " + strconv.Quote(text[len(text)-150:]) + " of " + strconv.Itoa(len(text)) + " bytes"
}

// wantShow wants a tree to be written so.
func wantShow(t *testing.T, x tree.Node, want string) {
	t.Helper()
	if got := tree.Show(x); got != want {
		t.Errorf("Show of %s, %d nodes: %s, want %s", strconv.Quote(x.Kind), tree.Size(x), told(got), told(want))
	}
}
