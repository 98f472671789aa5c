// Package lectern reads, compiles and runs programs, each in its turn: see DOC.md.
package lectern

import (
	"math"

	"lectern/api"
	"lectern/compile"
	"lectern/machine"
	"lectern/names"
	"lectern/parse"
	"lectern/scan"
	"lectern/tree"
)

// Check tells what is wrong first with a text, and where (P3).
func Check(text string) (api.Errno, int) {
	_, code, at := read(text)
	return code, at
}

// read answers the tree of a text; or else what is wrong first, and where.
func read(text string) (tree.Program, api.Errno, int) {
	if len(text) > api.MaxText {
		return tree.Program{}, api.ErrLong, 0
	}
	tokens, code, at := scan.Tokens(text)
	if code != api.OK {
		return tree.Program{}, code, at
	}
	program, code, at := parse.Program(tokens)
	if code != api.OK {
		return tree.Program{}, code, at
	}
	code, at = names.Look(program)
	return program, code, at
}

// Run runs one (P4). One turn with all the fuel is enough: when that is used up, the program ends, rather than wait for another turn.
func Run(text string, input []int, fuel int) (api.Outcome, api.Errno, int) {
	work, code, at := prepare(text, input, fuel)
	if code != api.OK {
		return api.Outcome{}, code, at
	}
	outcome, _ := work.GoOn(fuel)
	return outcome, api.OK, 0
}

// prepare answers a machine for a program; or else the error of Run.
func prepare(text string, input []int, fuel int) (*machine.Machine, api.Errno, int) {
	program, code, at := read(text)
	if code != api.OK {
		return nil, code, at
	}
	if fuel < 0 || fuel > api.MaxFuel {
		return nil, api.ErrFuel, 0
	}
	values, ok := valuesOf(input)
	if !ok {
		return nil, api.ErrInput, 0
	}
	return machine.New(compile.Program(program), values, fuel), api.OK, 0
}

// valuesOf answers whether all numbers are values, and these.
func valuesOf(input []int) ([]int32, bool) {
	values := make([]int32, 0, len(input))
	for _, number := range input {
		if number < math.MinInt32 || number > math.MaxInt32 {
			return nil, false
		}
		values = append(values, int32(number))
	}
	return values, true
}
