// Package lectern reads, compiles and runs programs, each in its turn: see DOC.md.
package lectern

import (
	"lectern/api"
	"lectern/names"
	"lectern/parse"
	"lectern/scan"
)

// Room is jobs that take turns.
type Room struct{}

// Check tells what is wrong first with a text, and where (P3).
func Check(text string) (api.Errno, int) {
	if len(text) > api.MaxText {
		return api.ErrLong, 0
	}
	tokens, code, at := scan.Tokens(text)
	if code != api.OK {
		return code, at
	}
	program, code, at := parse.Program(tokens)
	if code != api.OK {
		return code, at
	}
	return names.Look(program)
}

// Run runs one (P4).
func Run(text string, input []int, fuel int) (api.Outcome, api.Errno, int) {
	return api.Outcome{}, api.OK, 0
}

// NewRoom makes a room (P5).
func NewRoom(slice int) (*Room, api.Errno) { return nil, api.OK }

// Submit lays a job into it (P5).
func (r *Room) Submit(text string, input []int, fuel int) (int, api.Errno, int) {
	return 0, api.OK, 0
}

// Tick goes on for some rounds (P5).
func (r *Room) Tick(rounds int) ([]int, api.Errno) { return nil, api.OK }

// Job tells how one stands (P5).
func (r *Room) Job(n int) (api.Outcome, int, api.Errno) { return api.Outcome{}, 0, api.OK }

// Drop ends one (P5).
func (r *Room) Drop(n int) api.Errno { return api.OK }
