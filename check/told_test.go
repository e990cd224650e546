package check_test

import (
	"strconv"
	"strings"
	"testing"

	"gantline/api"
	"gantline/check"
	"gantline/parse"
	"gantline/tree"
)

// short is a text, or how it begins and ends.
func short(text string) string {
	if len(text) <= 400 {
		return strconv.Quote(text)
	}
	return strconv.Quote(text[:200]) + " .. " + strconv.Quote(text[len(text)-200:])
}

// read is the tree of a text, which is wanted to have one.
func read(t *testing.T, text string) tree.Node {
	t.Helper()
	p, at, e := parse.Parse(text)
	if e != api.OK {
		t.Fatalf("%s can't be read: error %d at %d", short(text), e, at)
	}
	return p
}

// wantGood wants a text to be a program.
func wantGood(t *testing.T, texts ...string) {
	t.Helper()
	for _, text := range texts {
		if at, e := check.Check(read(t, text)); at != 0 || e != api.OK {
			t.Errorf("Check(%s): error %d at %d, want none", short(text), e, at)
		}
	}
}

// wantFaults wants each text to have its first fault where its mark @ stands.
func wantFaults(t *testing.T, texts ...string) {
	t.Helper()
	for _, text := range texts {
		ahead, behind, ok := strings.Cut(text, "@")
		if !ok {
			t.Fatalf("%s has no mark", short(text))
		}
		wantFault(t, ahead+behind, len(ahead))
	}
}

// wantFault wants a text to have its first fault there.
func wantFault(t *testing.T, text string, want int) {
	t.Helper()
	if at, e := check.Check(read(t, text)); at != want || e != api.ETYPE {
		t.Errorf("Check(%s): error %d at %d, want %d at %d", short(text), e, at, api.ETYPE, want)
	}
}

// What stands around the statements of a main that has a variable of each sort, and things of the program's to name.
const (
	declared = "struct S { a int; b bool; s S; l []int; c chan bool; f func(int) bool; } struct T { a bool; } struct None { } " +
		"var gi int; var gb bool; var gs S; var gl []int; var gc chan int; var gf func(int) bool; " +
		"func one() int { return 1; } func two(a int, b bool) { } func is(a int) bool { return a == 1; } func of(s S) T { return nil(T); } func more() func(int) bool { return is; } "
	mainAhead = declared + "func main() { var i int = 1; var b bool = true; var s S = new S; var t T = new T; var l []int = make([]int, 3); var m []bool = make([]bool, 3); " +
		"var c chan int = make(chan int, 1); var d chan bool = make(chan bool, 0); var f func(int) bool = is; var h func() = main; "
	mainBehind = " }"
)

func inMain(texts []string) []string {
	var list []string
	for _, text := range texts {
		list = append(list, mainAhead+text+mainBehind)
	}
	return list
}

// wantGoodIn wants each to be statements of such a main.
func wantGoodIn(t *testing.T, statements ...string) {
	t.Helper()
	wantGood(t, inMain(statements)...)
}

// wantFaultsIn wants each of some statements of such a main to have its first fault where its mark @ stands.
func wantFaultsIn(t *testing.T, statements ...string) {
	t.Helper()
	wantFaults(t, inMain(statements)...)
}

// typed is an expression of such a main, and its type.
type typed struct{ text, typ string }

// someTyped are names of such a main, and of what it has not, some of each type.
func someTyped() []typed {
	return []typed{
		{"i", "int"}, {"gi", "int"}, {"7", "int"}, {"b", "bool"}, {"gb", "bool"}, {"false", "bool"},
		{"s", "S"}, {"gs", "S"}, {"t", "T"}, {"nil(None)", "None"},
		{"l", "[]int"}, {"gl", "[]int"}, {"m", "[]bool"}, {"nil([]S)", "[]S"}, {"nil([][]int)", "[][]int"},
		{"c", "chan int"}, {"d", "chan bool"}, {"nil(chan T)", "chan T"}, {"nil(chan []int)", "chan []int"},
		{"f", "func(int) bool"}, {"is", "func(int) bool"}, {"h", "func()"}, {"main", "func()"}, {"one", "func() int"},
		{"two", "func(int, bool)"}, {"nil(func(bool, int))", "func(bool, int)"}, {"of", "func(S) T"}, {"more", "func() func(int) bool"},
		{"nil(func(int))", "func(int)"}, {"nil(func(func()) int)", "func(func()) int"},
	}
}
