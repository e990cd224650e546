// Package op names the numbers that instructions are made of: see DOC.md, chapter 9. It stands below all layers that tell instructions apart.
package op

// None stands in an operand, or in a case's Val, for no slot, where the chapter lets it.
const None = -1

// The instructions, in the order of the chapter's table: each is its Op.
const (
	Const = iota
	Move
	Nil
	Add
	Sub
	Mul
	Div
	Mod
	And
	Or
	Xor
	Shl
	Shr
	Lt
	Le
	Eq
	Same
	Not
	Jump
	If
	Call
	Callc
	Return
	Go
	Goc
	New
	Array
	Get
	Set
	Setn
	At
	Put
	Putn
	Len
	Load
	Store
	Closure
	Chan
	Send
	Recv
	Close
	Select
	Print
	Poll
	Trap
)

// The Kinds of a select's cases.
const (
	CaseRecv = iota
	CaseSend
	CaseDefault
)
