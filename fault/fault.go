// Package fault keeps what is wrong first.
package fault

import "lectern/api"

// First is the first fault that it was told of, and its place; OK, as long as there is none.
type First struct {
	Code api.Errno
	At   int
}

// Tell keeps a fault, unless there is one already: texts are gone through from the front, so the earlier one is the one to tell.
func (f *First) Tell(code api.Errno, at int) {
	if f.Code == api.OK {
		f.Code, f.At = code, at
	}
}
