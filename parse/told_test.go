package parse_test

import (
	"reflect"
	"slices"
	"strconv"
	"strings"
	"testing"

	"gantline/api"
	"gantline/parse"
	"gantline/tree"
)

// told is a tree as it can be told, without where it stands: Kind:Text(its kids).
func told(x tree.Node) string {
	text := x.Kind
	if x.Text != "" {
		text += ":" + x.Text
	}
	if len(x.Kids) == 0 {
		return text
	}
	var kids []string
	for _, kid := range x.Kids {
		kids = append(kids, told(kid))
	}
	return text + "(" + strings.Join(kids, " ") + ")"
}

// short is a text, or how it begins and ends.
func short(text string) string {
	if len(text) <= 300 {
		return strconv.Quote(text)
	}
	return strconv.Quote(text[:150]) + " .. " + strconv.Quote(text[len(text)-150:]) + " of " + strconv.Itoa(len(text)) + " bytes"
}

// read is the tree of a text, which is wanted to have one.
func read(t *testing.T, text string) tree.Node {
	t.Helper()
	x, at, e := parse.Parse(text)
	if e != api.OK || at != 0 {
		t.Errorf("Parse(%s): error %d at %d", short(text), e, at)
	}
	return x
}

// wantTree wants a text to be such a tree.
func wantTree(t *testing.T, text, want string) {
	t.Helper()
	if got := told(read(t, text)); got != want {
		t.Errorf("Parse(%s): %s, want %s", short(text), short(got), short(want))
	}
}

// wantFault wants a text to be refused, and nothing told but why and where.
func wantFault(t *testing.T, text string, want api.Errno, where int) {
	t.Helper()
	x, at, e := parse.Parse(text)
	if e != want || at != where {
		t.Errorf("Parse(%s): error %d at %d, want %d at %d", short(text), e, at, want, where)
	}
	if !reflect.DeepEqual(x, tree.Node{}) {
		t.Errorf("Parse(%s): beside an error stands %s", short(text), short(told(x)))
	}
}

// marked is a text without its marks @, and where they stood.
func marked(text string) (string, []int) {
	var places []int
	parts := strings.Split(text, "@")
	at := 0
	for _, part := range parts[:len(parts)-1] {
		at += len(part)
		places = append(places, at)
	}
	return strings.Join(parts, ""), places
}

// wantMarked wants a text to be refused where it has its mark @.
func wantMarked(t *testing.T, text string, want api.Errno) {
	t.Helper()
	plain, places := marked(text)
	wantFault(t, plain, want, places[0])
}

// each calls for each node of a tree, a node ahead of its kids.
func each(x tree.Node, call func(x tree.Node)) {
	call(x)
	for _, kid := range x.Kids {
		each(kid, call)
	}
}

// wantPlaces wants the nodes of a Kind to stand where a text has its marks @.
func wantPlaces(t *testing.T, kind, text string) {
	t.Helper()
	plain, want := marked(text)
	var got []int
	each(read(t, plain), func(x tree.Node) {
		if x.Kind == kind {
			got = append(got, x.At)
		}
	})
	slices.Sort(got)
	if !slices.Equal(got, want) {
		t.Errorf("Parse(%s): %s at %v, want %v", short(plain), kind, got, want)
	}
}

// What stands around a statement, and around an expression.
const (
	bodyAhead  = "func f() { "
	bodyBehind = " }"
	body       = "program(func:f(params none block("
	exprAhead  = bodyAhead + "print "
	exprBehind = ";" + bodyBehind
)

// wantStatements wants a function's statements to be such trees.
func wantStatements(t *testing.T, text, want string) {
	t.Helper()
	wantTree(t, bodyAhead+text+bodyBehind, body+want+")))")
}

// wantExpr wants an expression to be such a tree.
func wantExpr(t *testing.T, text, want string) {
	t.Helper()
	wantTree(t, exprAhead+text+exprBehind, body+"print("+want+"))))")
}

// wantType wants a type to be such a tree.
func wantType(t *testing.T, text, want string) {
	t.Helper()
	wantTree(t, "var g "+text+";", "program(global:g("+want+"))")
}

// pair is a text, and the tree that it is.
type pair struct{ text, want string }
