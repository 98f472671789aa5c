// Package tree has the nodes that a text becomes when it is read.
package tree

// Name is a name and its place in the text, at which a fault of it is told.
type Name struct {
	Text string
	At   int
}

// Program is a whole text: what it declares, and its list.
type Program struct {
	Globals []Global
	Body    []Statement
}

// Global is a Var, an Array, a Proc or a Func.
type Global interface{ global() }

// Var declares a variable.
type Var struct{ Name Name }

// Array declares an array. SizeAt is the place of its size.
type Array struct {
	Name   Name
	Size   int
	SizeAt int
}

// Routine is what a proc and a func have both.
type Routine struct {
	Name   Name
	Params []Name
	Locals []Name
	Body   []Statement
}

// Proc declares a routine that is called as a statement.
type Proc struct{ Routine }

// Func declares a routine that is called in an expression.
type Func struct{ Routine }

func (Var) global()   {}
func (Array) global() {}
func (Proc) global()  {}
func (Func) global()  {}

// Statement is an Assign, AssignAt, CallProc, If, While, Block, Write or Read.
type Statement interface{ statement() }

// Assign gives a variable, or a result, a value.
type Assign struct {
	Name  Name
	Value Expr
}

// AssignAt gives a place of an array a value.
type AssignAt struct {
	Array Name
	Index Expr
	Value Expr
}

// CallProc calls a proc.
type CallProc struct {
	Name Name
	Args []Expr
}

// If has no Else (nil) where the text has none.
type If struct {
	Test Expr
	Then Statement
	Else Statement
}

// While does its Body as long as its Test is not 0.
type While struct {
	Test Expr
	Body Statement
}

// Block is a list between begin and end.
type Block struct{ List []Statement }

// Write writes a value.
type Write struct{ Value Expr }

// Read gives a variable the next number of the input.
type Read struct{ Name Name }

func (Assign) statement()   {}
func (AssignAt) statement() {}
func (CallProc) statement() {}
func (If) statement()       {}
func (While) statement()    {}
func (Block) statement()    {}
func (Write) statement()    {}
func (Read) statement()     {}

// Expr is a Number, Variable, Element, CallFunc, Binary or Unary. Brackets leave no node of their own.
type Expr interface{ expr() }

// Number stands for itself.
type Number struct{ Value int }

// Variable is the value of one.
type Variable struct{ Name Name }

// Element is the value of a place of an array.
type Element struct {
	Array Name
	Index Expr
}

// CallFunc calls a func.
type CallFunc struct {
	Name Name
	Args []Expr
}

// Binary joins two operands by a sign, or by and or or.
type Binary struct {
	Op    string
	Left  Expr
	Right Expr
}

// Unary is - or not, and its operand.
type Unary struct {
	Op      string
	Operand Expr
}

func (Number) expr()   {}
func (Variable) expr() {}
func (Element) expr()  {}
func (CallFunc) expr() {}
func (Binary) expr()   {}
func (Unary) expr()    {}
