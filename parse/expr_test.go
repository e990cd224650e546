package parse_test

import (
	"slices"
	"strings"
	"testing"

	"gantline/api"
)

// P21.1: each expression but for operators.
func TestExpressions(t *testing.T) {
	for _, p := range []pair{
		{"0", "number:0"},
		{"12", "number:12"},
		{"007", "number:007"},
		{"4611686018427387903", "number:4611686018427387903"},
		{"a", "name:a"},
		{"_", "name:_"},
		{"f1", "name:f1"},
		{"true", "true"},
		{"false", "false"},
		{"nil(S)", "nil(named:S)"},
		{"nil(int)", "nil(int)"},
		{"nil([]chan func(int) bool)", "nil(list(chan(fn(bool int))))"},
		{"new S", "new:S"},
		{"make([]int, 3)", "make(list(int) number:3)"},
		{"make(chan S, a + b)", "make(chan(named:S) binary:+(name:a name:b))"},
		{"len(a)", "len(name:a)"},
		{"len(a || b)", "len(binary:||(name:a name:b))"},
		{"recv(c)", "recv(name:c)"},
		{"recv(recv(c))", "recv(recv(name:c))"},
		{"func() { }", "lambda(params none block)"},
		{"func(a int, b S) { a; }", "lambda(params(param:a(int) param:b(named:S)) none block(do(name:a)))"},
		{"func() int { return 1; }", "lambda(params int block(return(number:1)))"},
		{"func() func() int { return func() int { return 1; }; }", "lambda(params fn(int) block(return(lambda(params int block(return(number:1))))))"},
		{"(a)", "name:a"},
		{"(((a)))", "name:a"},
		{"(func() { })", "lambda(params none block)"},
		{"(a || b)", "binary:||(name:a name:b)"},
	} {
		wantExpr(t, p.text, p.want)
		wantExpr(t, "("+p.text+")", p.want)
		wantExpr(t, p.text+"()", "call("+p.want+")")
		wantExpr(t, p.text+".x[1]", "index(dot:x("+p.want+") number:1)")
		wantExpr(t, "-"+p.text, "unary:-("+p.want+")")
		wantExpr(t, p.text+" + "+p.text, "binary:+("+p.want+" "+p.want+")")
		wantExpr(t, "f("+p.text+", "+p.text+")["+p.text+"]", "index(call(name:f "+p.want+" "+p.want+") "+p.want+")")
	}
}

// P21.1: what stands behind an expression, any number of them, from the left.
func TestBehind(t *testing.T) {
	for _, p := range []pair{
		{"f()", "call(name:f)"},
		{"f(1)", "call(name:f number:1)"},
		{"f(1, 2, 3)", "call(name:f number:1 number:2 number:3)"},
		{"f(a + b, (c), g(d, e))", "call(name:f binary:+(name:a name:b) name:c call(name:g name:d name:e))"},
		{"f()()(1)", "call(call(call(name:f)) number:1)"},
		{"a[0]", "index(name:a number:0)"},
		{"a[b[c]]", "index(name:a index(name:b name:c))"},
		{"a[0][1]", "index(index(name:a number:0) number:1)"},
		{"a[b + c]", "index(name:a binary:+(name:b name:c))"},
		{"a.b", "dot:b(name:a)"},
		{"a . b . c", "dot:c(dot:b(name:a))"},
		{"1.a", "dot:a(number:1)"},
		{"a.b[c](d, e).g", "dot:g(call(index(dot:b(name:a) name:c) name:d name:e))"},
		{"new S.a", "dot:a(new:S)"},
		{"new S()[0]", "index(call(new:S) number:0)"},
		{"func() { }()", "call(lambda(params none block))"},
		{"func() []int { }[0]", "index(lambda(params list(int) block) number:0)"},
		{"(a + b).c", "dot:c(binary:+(name:a name:b))"},
		{"(-a)[0]", "index(unary:-(name:a) number:0)"},
		{"-a[0]", "unary:-(index(name:a number:0))"},
		{"!f()", "unary:!(call(name:f))"},
		{"-a.b", "unary:-(dot:b(name:a))"},
	} {
		wantExpr(t, p.text, p.want)
	}
}

// operators are those of each row, the loosest first.
func operators() []string {
	return []string{"||", "&&", "== != < <= > >=", "+ - | ^", "* / % << >> &"}
}

const comparisons = 2 // their row

// rowOf tells an operator's row.
func rowOf(sign string) int {
	return slices.IndexFunc(operators(), func(row string) bool { return slices.Contains(strings.Fields(row), sign) })
}

// P21.1: operators of one row are joined from the left.
func TestFromTheLeft(t *testing.T) {
	for row, list := range operators() {
		for _, one := range strings.Fields(list) {
			wantExpr(t, "a "+one+" b", "binary:"+one+"(name:a name:b)")
			wantExpr(t, "a"+one+"b", "binary:"+one+"(name:a name:b)")
			for _, other := range strings.Fields(list) {
				if row == comparisons {
					continue
				}
				wantExpr(t, "a "+one+" b "+other+" c", "binary:"+other+"(binary:"+one+"(name:a name:b) name:c)")
				wantExpr(t, "a "+one+" (b "+other+" c)", "binary:"+one+"(name:a binary:"+other+"(name:b name:c))")
				wantExpr(t, "a "+one+" b "+other+" c "+one+" d", "binary:"+one+"(binary:"+other+"(binary:"+one+"(name:a name:b) name:c) name:d)")
			}
		}
	}
}

// P21.1: a comparison of comparisons is a fault at the second sign; in brackets it is none.
func TestComparisons(t *testing.T) {
	for _, one := range strings.Fields(operators()[comparisons]) {
		for _, other := range strings.Fields(operators()[comparisons]) {
			wantMarked(t, exprAhead+"a "+one+" b @"+other+" c"+exprBehind, api.ESYNTAX)
			wantMarked(t, exprAhead+"a "+one+" b + 1 @"+other+" -c"+exprBehind, api.ESYNTAX)
			wantMarked(t, exprAhead+"x && a "+one+" b @"+other+" c || y"+exprBehind, api.ESYNTAX)
			wantMarked(t, exprAhead+"f(a "+one+" b @"+other+" c)"+exprBehind, api.ESYNTAX)
			wantMarked(t, exprAhead+"(a "+one+" b) "+other+" c @"+one+" d"+exprBehind, api.ESYNTAX)
			wantMarked(t, bodyAhead+"a "+one+" b @"+other+" c = d; "+bodyBehind, api.ESYNTAX)
			wantExpr(t, "(a "+one+" b) "+other+" c", "binary:"+other+"(binary:"+one+"(name:a name:b) name:c)")
			wantExpr(t, "a "+one+" (b "+other+" c)", "binary:"+one+"(name:a binary:"+other+"(name:b name:c))")
			wantExpr(t, "a "+one+" b && c "+other+" d", "binary:&&(binary:"+one+"(name:a name:b) binary:"+other+"(name:c name:d))")
			wantExpr(t, "a "+one+" b || c "+other+" d", "binary:||(binary:"+one+"(name:a name:b) binary:"+other+"(name:c name:d))")
			wantExpr(t, "a "+one+" f(b "+other+" c)", "binary:"+one+"(name:a call(name:f binary:"+other+"(name:b name:c)))")
		}
	}
}

// P21.1: of two rows of operators, the one below binds more closely, on either side.
func TestRowsBind(t *testing.T) {
	rows := operators()
	for i, loose := range rows {
		for _, tight := range rows[i+1:] {
			for _, l := range strings.Fields(loose) {
				for _, c := range strings.Fields(tight) {
					wantExpr(t, "a "+l+" b "+c+" d", "binary:"+l+"(name:a binary:"+c+"(name:b name:d))")
					wantExpr(t, "a "+c+" b "+l+" d", "binary:"+l+"(binary:"+c+"(name:a name:b) name:d)")
					wantExpr(t, "(a "+l+" b) "+c+" d", "binary:"+c+"(binary:"+l+"(name:a name:b) name:d)")
					wantExpr(t, "a "+c+" (b "+l+" d)", "binary:"+c+"(name:a binary:"+l+"(name:b name:d))")
					wantExpr(t, "a "+c+" b "+l+" d "+c+" e", "binary:"+l+"(binary:"+c+"(name:a name:b) binary:"+c+"(name:d name:e))")
				}
			}
		}
	}
	wantExpr(t, "a || b && c == d + e * f", "binary:||(name:a binary:&&(name:b binary:==(name:c binary:+(name:d binary:*(name:e name:f)))))")
	wantExpr(t, "a * b + c == d && e || f", "binary:||(binary:&&(binary:==(binary:+(binary:*(name:a name:b) name:c) name:d) name:e) name:f)")
}

// P21.1: a sign ahead binds more closely than any operator between, and less closely than what stands behind.
func TestSignsAhead(t *testing.T) {
	for _, sign := range []string{"-", "!"} {
		u := "unary:" + sign
		wantExpr(t, sign+"a", u+"(name:a)")
		wantExpr(t, sign+sign+"a", u+"("+u+"(name:a))")
		wantExpr(t, sign+" - ! "+sign+"a", u+"(unary:-(unary:!("+u+"(name:a))))")
		wantExpr(t, sign+"1", u+"(number:1)")
		wantExpr(t, sign+"(a)", u+"(name:a)")
		wantExpr(t, sign+"a.b(c)[d]", u+"(index(call(dot:b(name:a) name:c) name:d))")
		wantExpr(t, "("+sign+"a).b", "dot:b("+u+"(name:a))")
		for _, list := range operators() {
			for _, one := range strings.Fields(list) {
				wantExpr(t, sign+"a "+one+" b", "binary:"+one+"("+u+"(name:a) name:b)")
				wantExpr(t, "a "+one+" "+sign+"b", "binary:"+one+"(name:a "+u+"(name:b))")
				wantExpr(t, sign+"(a "+one+" b)", u+"(binary:"+one+"(name:a name:b))")
			}
		}
	}
	wantExpr(t, "a - -b", "binary:-(name:a unary:-(name:b))")
	wantExpr(t, "a--b", "binary:-(name:a unary:-(name:b))")
	wantExpr(t, "a!=!b", "binary:!=(name:a unary:!(name:b))")
}
