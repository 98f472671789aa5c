// Package lectern reads, compiles and runs programs, each in its turn: see DOC.md.
package lectern

import (
	"math"

	"lectern/api"
	"lectern/compile"
	"lectern/machine"
	"lectern/names"
	"lectern/parse"
	"lectern/scan"
	"lectern/tree"
)

// Room is jobs that take turns.
type Room struct{}

// Check tells what is wrong first with a text, and where (P3).
func Check(text string) (api.Errno, int) {
	_, code, at := read(text)
	return code, at
}

// read answers the tree of a text; or else what is wrong first, and where.
func read(text string) (tree.Program, api.Errno, int) {
	if len(text) > api.MaxText {
		return tree.Program{}, api.ErrLong, 0
	}
	tokens, code, at := scan.Tokens(text)
	if code != api.OK {
		return tree.Program{}, code, at
	}
	program, code, at := parse.Program(tokens)
	if code != api.OK {
		return tree.Program{}, code, at
	}
	code, at = names.Look(program)
	return program, code, at
}

// Run runs one (P4).
func Run(text string, input []int, fuel int) (api.Outcome, api.Errno, int) {
	program, code, at := read(text)
	if code != api.OK {
		return api.Outcome{}, code, at
	}
	if fuel < 0 || fuel > api.MaxFuel {
		return api.Outcome{}, api.ErrFuel, 0
	}
	values, ok := valuesOf(input)
	if !ok {
		return api.Outcome{}, api.ErrInput, 0
	}
	return machine.Run(compile.Program(program), values, fuel), api.OK, 0
}

// valuesOf answers whether all numbers are values, and these.
func valuesOf(input []int) ([]int32, bool) {
	values := make([]int32, 0, len(input))
	for _, number := range input {
		if number < math.MinInt32 || number > math.MaxInt32 {
			return nil, false
		}
		values = append(values, int32(number))
	}
	return values, true
}

// NewRoom makes a room (P5).
func NewRoom(slice int) (*Room, api.Errno) { return nil, api.OK }

// Submit lays a job into it (P5).
func (r *Room) Submit(text string, input []int, fuel int) (int, api.Errno, int) {
	return 0, api.OK, 0
}

// Tick goes on for some rounds (P5).
func (r *Room) Tick(rounds int) ([]int, api.Errno) { return nil, api.OK }

// Job tells how one stands (P5).
func (r *Room) Job(n int) (api.Outcome, int, api.Errno) { return api.Outcome{}, 0, api.OK }

// Drop ends one (P5).
func (r *Room) Drop(n int) api.Errno { return api.OK }
