// Package turns has jobs, and lets them go on in their turns.
package turns

import (
	"slices"

	"lectern/api"
	"lectern/machine"
)

// Job is a program that goes on in turns. When it has ended, its outcome stays, and what it worked with is let go.
type Job struct {
	number  int
	outcome api.Outcome
	work    *machine.Machine // nil, when it has ended
}

// NewJob answers a job that has used nothing.
func NewJob(number int, work *machine.Machine) *Job {
	return &Job{number: number, work: work}
}

// Number answers its number.
func (j *Job) Number() int { return j.number }

// Over answers whether it has ended.
func (j *Job) Over() bool { return j.work == nil }

// Outcome answers its outcome so far, in memory of its own.
func (j *Job) Outcome() api.Outcome {
	outcome := j.outcome
	outcome.Out = slices.Clone(outcome.Out)
	return outcome
}

func (j *Job) goOn(units int) {
	outcome, over := j.work.GoOn(units)
	j.outcome = outcome
	if over {
		j.end()
	}
}

func (j *Job) end() { j.work = nil }

// ahead answers whether it goes on ahead of another one.
func (j *Job) ahead(other *Job) bool {
	if j.outcome.Used != other.outcome.Used {
		return j.outcome.Used < other.outcome.Used
	}
	return j.number < other.number
}
