package parse_test

import (
	"slices"
	"strings"
	"testing"

	"gantline/api"
	"gantline/parse"
)

// words are all words there can be: a name, a number, the kept names, the signs, and the text's end.
func words() []string {
	list := strings.Fields("x 7 struct var func int bool chan if else while return print go send close select case default recv true false nil new make len")
	list = append(list, strings.Fields("( ) { } [ ] , ; . = == != < <= > >= + - * / % & | ^ << >> ! && || :")...)
	return append(list, "")
}

// Words that can begin something, or go on with it.
const (
	declares = "struct var func END"
	types    = "x int bool [ chan func"
	exprs    = "x 7 true false nil new make len recv func ( - !"
	inBlock  = "{ var if while return print close go send select } " + exprs
	behind   = "( [ ."
	joined   = behind + " || && + - | ^ * / % << >> &"
	goes     = joined + " == != < <= > >="
	cases    = "case default }"
)

// spot is the beginning of a text, and what may come behind it.
type spot struct{ ahead, may string }

// wantSpots wants each word that may not be there to be a fault, and no other.
func wantSpots(t *testing.T, before string, spots []spot) {
	t.Helper()
	for _, s := range spots {
		ahead := before + s.ahead + " "
		may := strings.Fields(s.may)
		for _, word := range words() {
			if slices.Contains(may, word) || word == "" && slices.Contains(may, "END") {
				if _, at, e := parse.Parse(ahead + word + " "); e != api.OK && at <= len(ahead) {
					t.Errorf("Parse(%s): error %d at %d", short(ahead+word), e, at)
				}
				continue
			}
			wantFault(t, ahead+word, api.ESYNTAX, len(ahead))
			if word != "" {
				wantFault(t, ahead+word+" } ; ( x", api.ESYNTAX, len(ahead))
			}
		}
	}
}

// P21.1: the first word that fits nothing, in declarations and types.
func TestFaultsOfDeclarations(t *testing.T) {
	wantSpots(t, "", []spot{
		{"", declares},
		{"struct", "x"}, {"struct S", "{"}, {"struct S {", "x }"}, {"struct S { a", types}, {"struct S { a int", ";"}, {"struct S { a int;", "x }"}, {"struct S { a int; }", declares}, {"struct S { }", declares},
		{"var", "x"}, {"var g", types}, {"var g int", ";"}, {"var g int;", declares}, {"var g bool", ";"}, {"var g S", ";"},
		{"var g [", "]"}, {"var g []", types}, {"var g []int", ";"}, {"var g chan", types}, {"var g chan int", ";"},
		{"var g func", "("}, {"var g func(", types + " )"}, {"var g func(int", ", )"}, {"var g func(int,", types}, {"var g func(int, S", ", )"},
		{"var g func()", types + " ;"}, {"var g func() int", ";"}, {"var g func(int) []", types}, {"var g func(func()", types + " , )"}, {"var g func(func() int", ", )"}, {"var g []func()", types + " ;"},
		{"func", "x"}, {"func f", "("}, {"func f(", "x )"}, {"func f(a", types}, {"func f(a int", ", )"}, {"func f(a int,", "x"}, {"func f(a int, b", types}, {"func f(a int, b []int", ", )"}, {"func f(a func()", types + " , )"},
		{"func f()", types + " {"}, {"func f(a int)", types + " {"}, {"func f() int", "{"}, {"func f() S", "{"}, {"func f() []", types}, {"func f() func()", types + " {"}, {"func f() func() int", "{"},
		{"func f() {", inBlock}, {"func f() { }", declares}, {"func f() int { }", declares}, {"func f() { } var g int;", declares},
	})
}

// P21.1: likewise in statements.
func TestFaultsOfStatements(t *testing.T) {
	wantSpots(t, bodyAhead, []spot{
		{"{", inBlock}, {"{ }", inBlock}, {"{ a;", inBlock}, {"{ } }", declares},
		{"var", "x"}, {"var a", types}, {"var a int", "="}, {"var a func()", types + " ="}, {"var a int =", exprs}, {"var a int = b", goes + " ;"}, {"var a int = b;", inBlock},
		{"if", exprs}, {"if a", goes + " {"}, {"if a {", inBlock}, {"if a { }", inBlock + " else"}, {"if a { } else", "{"}, {"if a { } else {", inBlock}, {"if a { } else { }", inBlock},
		{"while", exprs}, {"while a", goes + " {"}, {"while a {", inBlock}, {"while a { }", inBlock},
		{"return", exprs + " ;"}, {"return a", goes + " ;"}, {"return;", inBlock}, {"return a;", inBlock},
		{"print", exprs}, {"print a", goes + " ;"}, {"print a;", inBlock}, {"close", exprs}, {"close a", goes + " ;"}, {"close a;", inBlock},
		{"go", exprs}, {"go a", goes}, {"go a()", goes + " ;"}, {"go a() + b()", goes}, {"go a();", inBlock},
		{"send", exprs}, {"send a", goes + " ,"}, {"send a,", exprs}, {"send a, b", goes + " ;"}, {"send a, b;", inBlock},
		{"select", "{"}, {"select {", cases}, {"select { }", inBlock}, {"select { case", "recv send"}, {"select { case recv", "x"}, {"select { case recv v", "="}, {"select { case recv v =", exprs},
		{"select { case recv v = a", goes + " {"}, {"select { case recv v = a {", inBlock}, {"select { case recv v = a { }", cases}, {"select { case send", exprs}, {"select { case send a", goes + " ,"}, {"select { case send a,", exprs},
		{"select { case send a, b", goes + " {"}, {"select { case send a, b {", inBlock}, {"select { case send a, b { }", cases}, {"select { default", "{"}, {"select { default {", inBlock}, {"select { default { }", cases}, {"select { default { } }", inBlock},
		{"a", goes + " = ;"}, {"a =", exprs}, {"a = b", goes + " ;"}, {"a = b;", inBlock}, {"a;", inBlock}, {"a == b", joined + " = ;"}, {"a = b == c", joined + " ;"},
	})
}

// P21.1: likewise in expressions; each operator wants an expression behind it.
func TestFaultsOfExpressions(t *testing.T) {
	wantSpots(t, exprAhead, []spot{
		{"", exprs}, {"a", goes + " ;"}, {"7", goes + " ;"}, {"true", goes + " ;"}, {"false", goes + " ;"}, {"a;", inBlock},
		{"nil", "("}, {"nil(", types}, {"nil(int", ")"}, {"nil(S", ")"}, {"nil(func()", types + " )"}, {"nil(S)", goes + " ;"},
		{"new", "x"}, {"new S", goes + " ;"},
		{"make", "("}, {"make(", types}, {"make([]int", ","}, {"make(func()", types + " ,"}, {"make([]int,", exprs}, {"make([]int, a", goes + " )"}, {"make([]int, a)", goes + " ;"},
		{"len", "("}, {"len(", exprs}, {"len(a", goes + " )"}, {"len(a)", goes + " ;"}, {"recv", "("}, {"recv(", exprs}, {"recv(a", goes + " )"}, {"recv(a)", goes + " ;"},
		{"func", "("}, {"func(", "x )"}, {"func(a", types}, {"func(a int", ", )"}, {"func(a int,", "x"}, {"func()", types + " {"}, {"func() int", "{"}, {"func() func()", types + " {"}, {"func() {", inBlock}, {"func() { }", goes + " ;"},
		{"(", exprs}, {"(a", goes + " )"}, {"(a)", goes + " ;"}, {"((a)", goes + " )"}, {"(a == b", joined + " )"}, {"(a == b)", goes + " ;"},
		{"a(", exprs + " )"}, {"a(b", goes + " , )"}, {"a(b,", exprs}, {"a(b, c", goes + " , )"}, {"a()", goes + " ;"}, {"a(b)", goes + " ;"},
		{"a[", exprs}, {"a[b", goes + " ]"}, {"a[b]", goes + " ;"}, {"a.", "x"}, {"a.b", goes + " ;"},
		{"-", exprs}, {"!", exprs}, {"-a", goes + " ;"}, {"!a", goes + " ;"}, {"- -", exprs},
	})
	for row, list := range operators() {
		goOn := goes
		if row == comparisons {
			goOn = joined
		}
		for _, sign := range strings.Fields(list) {
			wantSpots(t, exprAhead, []spot{{"a " + sign, exprs}, {"a " + sign + " b", goOn + " ;"}, {"a " + sign + " -", exprs}, {"a " + sign + " (b)", goOn + " ;"}, {"(a " + sign + " b)", goes + " ;"}})
		}
	}
	wantSpots(t, exprAhead, []spot{{"a < b + c", joined + " ;"}, {"a + b < c", joined + " ;"}, {"a < b && c", goes + " ;"}, {"a < b || c", goes + " ;"}, {"a && b < c", joined + " ;"}})
}

// P21.1: of several faults it is the first; nothing behind it counts.
func TestFirstFault(t *testing.T) {
	for _, text := range []string{"func f() { @; ; }", "func f() { a @} }", "@x x", "var g int; @; var", "func f() { var @; var ; }", "struct S { a @; b ; }", "func f(@1, 2) { 3 }", "func f() { (a @; }", "func f() { f(a @b c); }", "func f() { } @} }", "func f() { if a { } else @if b { } else if c { } }"} {
		wantMarked(t, text, api.ESYNTAX)
		wantMarked(t, text+" ; ; ( } var", api.ESYNTAX)
		wantMarked(t, text+strings.Repeat("(", 100), api.ESYNTAX)
	}
}

// P21.1: lex's errors come first, with their places, also where the text ahead of them fits nothing.
func TestLexFaults(t *testing.T) {
	long, great := strings.Repeat("n", 65), "4611686018427387904"
	for _, bad := range []string{"#", "\"", "é", "\x00", long, great} {
		for _, ahead := range []string{"", " //\n ", "func ", "func f() { ", "func f() { print ", "x ", "; ", "func f() { a a; ", "func func func ", bodyAhead + strings.Repeat("(", 100) + " "} {
			wantFault(t, ahead+bad, api.ESYNTAX, len(ahead))
			wantFault(t, ahead+bad+" ; } #", api.ESYNTAX, len(ahead))
		}
		wantMarked(t, "func f() { } // "+bad+"\n@x", api.ESYNTAX)
	}
	wantFault(t, "func f() { print 1; } #", api.ESYNTAX, 22)
}

// P21.1: a text of just as many bytes as there may be, and of one more.
func TestLongTexts(t *testing.T) {
	for _, text := range []string{"", "func f() { }", "// "} {
		full := text + strings.Repeat(" ", api.MaxSource-len(text))
		read(t, full)
		wantFault(t, full+" ", api.ELIMIT, 0)
	}
	full := strings.Repeat(" ", api.MaxSource)
	wantFault(t, full[1:]+"x", api.ESYNTAX, api.MaxSource-1)
	wantFault(t, full[4:]+"func", api.ESYNTAX, api.MaxSource)
	wantFault(t, full+"x", api.ELIMIT, 0)
	wantFault(t, "#"+full, api.ELIMIT, 0)
	wantFault(t, ";"+full, api.ELIMIT, 0)
	wantFault(t, strings.Repeat("func f() { } ", 2000), api.ELIMIT, 0)
}
