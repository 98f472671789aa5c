package lectern

import (
	"lectern/api"
	"lectern/turns"
)

// Room is jobs that take turns.
type Room struct {
	slice   int
	jobs    []*turns.Job // number n stands at n - 1, also when it has ended
	waiting turns.Queue  // those that have not ended
}

// NewRoom makes a room (P5).
func NewRoom(slice int) (*Room, api.Errno) {
	if slice < 1 || slice > api.MaxSlice {
		return nil, api.ErrSlice
	}
	return &Room{slice: slice}, api.OK
}

// Submit lays a job into it (P5).
func (r *Room) Submit(text string, input []int, fuel int) (int, api.Errno, int) {
	work, code, at := prepare(text, input, fuel)
	if code != api.OK {
		return 0, code, at
	}
	if len(r.jobs) == api.MaxJobs {
		return 0, api.ErrMany, 0
	}
	job := turns.NewJob(len(r.jobs)+1, work)
	r.jobs = append(r.jobs, job)
	r.waiting.Add(job)
	return job.Number(), api.OK, 0
}

// Tick goes on for some rounds (P5).
func (r *Room) Tick(rounds int) ([]int, api.Errno) {
	if rounds < 0 || rounds > api.MaxRounds {
		return nil, api.ErrCount
	}
	var ended []int
	for range rounds {
		if job := r.waiting.Round(r.slice); job != nil {
			ended = append(ended, job.Number())
		}
	}
	return ended, api.OK
}

// Job tells how one stands (P5).
func (r *Room) Job(n int) (api.Outcome, int, api.Errno) {
	job := r.find(n)
	if job == nil {
		return api.Outcome{}, 0, api.ErrJob
	}
	if job.Over() {
		return job.Outcome(), 1, api.OK
	}
	return job.Outcome(), 0, api.OK
}

// Drop ends one (P5).
func (r *Room) Drop(n int) api.Errno {
	job := r.find(n)
	if job == nil {
		return api.ErrJob
	}
	if job.Over() {
		return api.ErrOver
	}
	r.waiting.Drop(job)
	return api.OK
}

// find answers a job, or nil, if there is none.
func (r *Room) find(n int) *turns.Job {
	if n < 1 || n > len(r.jobs) {
		return nil
	}
	return r.jobs[n-1]
}
