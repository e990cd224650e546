package parse_test

import (
	"slices"
	"strings"
	"unicode"

	"gantline/lex"
)

// chapter is the chapter's grammar, as it stands there.
const chapter = `
    program  = { decl } .
    decl     = "struct" NAME "{" { NAME type ";" } "}" | "var" NAME type ";" | "func" NAME "(" params ")" [ type ] block .
    params   = [ NAME type { "," NAME type } ] .
    type     = "int" | "bool" | NAME | "[" "]" type | "chan" type | "func" "(" [ type { "," type } ] ")" [ type ] .
    block    = "{" { stmt } "}" .
    stmt     = block | "var" NAME type "=" expr ";" | "if" expr block [ "else" block ] | "while" expr block
             | "return" [ expr ] ";" | "print" expr ";" | "close" expr ";" | "go" expr ";" | "send" expr "," expr ";"
             | "select" "{" { case } "}" | expr [ "=" expr ] ";" .
    case     = "case" "recv" NAME "=" expr block | "case" "send" expr "," expr block | "default" block .
    expr     = and { "||" and } .          and  = cmp { "&&" cmp } .
    cmp      = sum [ ( "==" | "!=" | "<" | "<=" | ">" | ">=" ) sum ] .
    sum      = term { ( "+" | "-" | "|" | "^" ) term } .     term = unary { ( "*" | "/" | "%" | "<<" | ">>" | "&" ) unary } .
    unary    = ( "-" | "!" ) unary | post .
    post     = prim { "(" [ expr { "," expr } ] ")" | "[" expr "]" | "." NAME } .
    prim     = NUMBER | NAME | "true" | "false" | "nil" "(" type ")" | "new" NAME | "make" "(" type "," expr ")"
             | "len" "(" expr ")" | "recv" "(" expr ")" | "func" "(" params ")" [ type ] block | "(" expr ")" .
`

// part tells where words may go on behind a part of the grammar that begins at one of them: in all ways.
type part func(at int) []int

// grammar reads words in all ways at once.
type grammar struct {
	rules  map[string]part
	source []string        // of the grammar, what is still to be read
	words  []string        // that are read
	known  map[known][]int // what a rule told
	far    int             // the last word that was asked for
}

type known struct {
	rule string
	at   int
}

func newGrammar() *grammar {
	g := &grammar{rules: map[string]part{}, source: strings.Fields(chapter)}
	for len(g.source) > 0 {
		name := g.source[0]
		g.source = g.source[2:]
		g.rules[name] = g.either(".")
	}
	return g
}

// either makes a part of others, one of which is there, up to what closes them.
func (g *grammar) either(closing string) part {
	ways := []part{nil}
	for g.source[0] != closing {
		last := &ways[len(ways)-1]
		if g.source[0] == "|" {
			ways = append(ways, nil)
			g.source = g.source[1:]
			continue
		}
		*last = then(*last, g.one())
	}
	g.source = g.source[1:]
	return func(at int) []int {
		var ends []int
		for _, way := range ways {
			ends = append(ends, way(at)...)
		}
		return distinct(ends)
	}
}

func distinct(ends []int) []int {
	slices.Sort(ends)
	return slices.Compact(ends)
}

// then makes a part of two, one behind the other.
func then(first, second part) part {
	if first == nil {
		return second
	}
	return func(at int) []int {
		var ends []int
		for _, middle := range first(at) {
			ends = append(ends, second(middle)...)
		}
		return distinct(ends)
	}
}

// one makes the next part of the grammar.
func (g *grammar) one() part {
	token := g.source[0]
	g.source = g.source[1:]
	switch {
	case token == "{":
		return many(g.either("}"))
	case token == "[":
		inner := g.either("]")
		return func(at int) []int { return distinct(append(inner(at), at)) }
	case token == "(":
		return g.either(")")
	case token == "NAME":
		return g.word(func(word string) bool { return !unicode.IsDigit(rune(word[0])) && isWord(word) && !lex.Kept(word) })
	case token == "NUMBER":
		return g.word(func(word string) bool { return unicode.IsDigit(rune(word[0])) })
	case token == `"go"`:
		return then(g.word(func(word string) bool { return word == "go" }), g.callThen())
	case token[0] == '"':
		return g.word(func(word string) bool { return `"`+word+`"` == token })
	}
	return func(at int) []int { return g.rule(token, at) }
}

func isWord(word string) bool {
	c := rune(word[0])
	return c == '_' || unicode.IsLetter(c)
}

// many makes a part of any number of others.
func many(inner part) part {
	return func(at int) []int {
		ends := []int{at}
		for i := 0; i < len(ends); i++ {
			for _, end := range inner(ends[i]) {
				if !slices.Contains(ends, end) {
					ends = append(ends, end)
				}
			}
		}
		return ends
	}
}

// word makes a part of one such word.
func (g *grammar) word(such func(word string) bool) part {
	return func(at int) []int {
		g.far = max(g.far, at)
		if at < len(g.words) && such(g.words[at]) {
			return []int{at + 1}
		}
		return nil
	}
}

// rule goes on by one, which tells the same each time.
func (g *grammar) rule(name string, at int) []int {
	ends, ok := g.known[known{name, at}]
	if !ok {
		ends = g.rules[name](at)
		g.known[known{name, at}] = ends
	}
	return slices.Clone(ends)
}

// callThen makes the part behind go: an expression up to its sign ; that is a call, where else it is a fault.
func (g *grammar) callThen() part {
	g.source = g.source[2:]
	semicolon := g.word(func(word string) bool { return word == ";" })
	return func(at int) []int {
		var ends []int
		for _, end := range g.rule("expr", at) {
			behind := semicolon(end)
			if g.isCall(at, end) {
				ends = append(ends, behind...)
			}
		}
		return ends
	}
}

// isCall tells whether words that are an expression are a call.
func (g *grammar) isCall(from, to int) bool {
	if g.words[to-1] != ")" {
		return false
	}
	opening := to - 1
	for open := 1; open > 0; {
		opening--
		switch g.words[opening] {
		case "(":
			open--
		case ")":
			open++
		}
	}
	if opening == from {
		return g.isCall(from+1, to-1)
	}
	return slices.Contains(g.rule("post", from), opening)
}

// fault tells the first word that fits nothing; -1, if all are a program.
func (g *grammar) fault(words []string) int {
	g.words, g.known, g.far = words, map[known][]int{}, 0
	if slices.Contains(g.rule("program", 0), len(words)) {
		return -1
	}
	return g.far
}
