// Package code has the instructions that a tree becomes.
package code

// Program is instructions, each one a word that tells what to do and, behind it, its parts, if it has any.
type Program struct {
	Words  []int
	Start  int // where the list of the program begins
	Places int // how many places the global variables and arrays take
}

// The instructions. They take their operands from the stack, the last one first, and lay their value there. Behind some stand their parts.
const (
	End  = iota // the program is over
	Unit        // a unit is due

	Push     // value
	Get      // place
	Set      // place
	GetLocal // place in the frame of the call
	SetLocal // place in the frame of the call
	Find     // first place and size of an array: an index becomes a place
	GetAt    // a place becomes its value
	SetAt    // takes a value, and the place below it

	Add
	Subtract
	Multiply
	Divide
	Remain
	Equal
	Differ
	Less
	Greater
	Negate
	Not
	Truth // 1, if the value is not 0, else 0

	Jump   // where to
	Unless // where to, if the value is 0

	Call      // where to, how many arguments
	Enter     // how many more places the frame gets
	Leave     // back from a proc
	LeaveWith // back from a func, place of the result in the frame

	Write
	Read
)
