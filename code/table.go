package code

import "strconv"

// row is what the chapter's table says of an instruction.
type row struct {
	name     string
	operands int // how many it names: always the first ones of A, B, C, D
	point    bool
	maker    bool
}

// The table, by Op.
var rows = [...]row{
	{name: "const", operands: 2},
	{name: "move", operands: 2},
	{name: "nil", operands: 1},
	{name: "add", operands: 3},
	{name: "sub", operands: 3},
	{name: "mul", operands: 3},
	{name: "div", operands: 3},
	{name: "mod", operands: 3},
	{name: "and", operands: 3},
	{name: "or", operands: 3},
	{name: "xor", operands: 3},
	{name: "shl", operands: 3},
	{name: "shr", operands: 3},
	{name: "lt", operands: 3},
	{name: "le", operands: 3},
	{name: "eq", operands: 3},
	{name: "same", operands: 3},
	{name: "not", operands: 2},
	{name: "jump", operands: 1},
	{name: "if", operands: 2},
	{name: "call", operands: 3, point: true},
	{name: "callc", operands: 4, point: true},
	{name: "return", operands: 1},
	{name: "go", operands: 2, point: true},
	{name: "goc", operands: 3, point: true},
	{name: "new", operands: 2, point: true, maker: true},
	{name: "array", operands: 3, point: true, maker: true},
	{name: "get", operands: 3},
	{name: "set", operands: 3},
	{name: "setn", operands: 3},
	{name: "at", operands: 3},
	{name: "put", operands: 3},
	{name: "putn", operands: 3},
	{name: "len", operands: 2},
	{name: "load", operands: 2},
	{name: "store", operands: 2},
	{name: "closure", operands: 3, point: true, maker: true},
	{name: "chan", operands: 3, point: true, maker: true},
	{name: "send", operands: 2, point: true},
	{name: "recv", operands: 3, point: true},
	{name: "close", operands: 1},
	{name: "select", operands: 2, point: true},
	{name: "print", operands: 1},
	{name: "poll", operands: 0, point: true},
	{name: "trap", operands: 1},
}

// rowOf is an instruction's row; where there is none, one that says nothing.
func rowOf(op int) row {
	if op < 0 || op >= len(rows) {
		return row{}
	}
	return rows[op]
}

// Name tells an instruction's name.
func Name(op int) string { return rowOf(op).name }

// Point tells whether nothing is young behind it.
func Point(op int) bool { return rowOf(op).point }

// Maker tells whether it makes an object.
func Maker(op int) bool { return rowOf(op).maker }

// Show tells an instruction in words.
func Show(i Instr) string {
	r := rowOf(i.Op)
	text := r.name
	all := [...]int{i.A, i.B, i.C, i.D}
	for _, v := range all[:r.operands] {
		text += " " + strconv.Itoa(v)
	}
	return text
}
