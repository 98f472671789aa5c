package turns

import (
	"slices"
	"testing"

	"lectern/api"
	"lectern/code"
	"lectern/machine"
)

// counter is a job that writes 1, 2, 3 and so on, one for each unit, till its fuel is used up.
func counter(number, fuel int) *Job {
	program := code.Program{Places: 1, Words: []int{code.Unit, code.Get, 0, code.Push, 1, code.Add, code.Set, 0, code.Get, 0, code.Write, code.Jump, 0}}
	return NewJob(number, machine.New(program, nil, fuel))
}

// empty is a job that ends without a unit.
func empty(number int) *Job {
	return NewJob(number, machine.New(code.Program{Words: []int{code.End}}, nil, 0))
}

func queue(jobs ...*Job) *Queue {
	q := &Queue{}
	for _, j := range jobs {
		q.Add(j)
	}
	return q
}

// wantRound: ended is the job that ends in it, or nil.
func wantRound(t *testing.T, q *Queue, units int, ended *Job) {
	t.Helper()
	if got := q.Round(units); got != ended {
		t.Errorf("P5: a round of %d: %v has ended, want %v", units, got, ended)
	}
}

func wantJob(t *testing.T, j *Job, code api.Errno, used int, over bool) {
	t.Helper()
	var out []int
	for n := range used {
		out = append(out, n+1)
	}
	got := j.Outcome()
	if got.Code != code || got.Used != used || !slices.Equal(got.Out, out) || j.Over() != over {
		t.Errorf("P5: job %d has %v, %v, want %d, %d, %v", j.Number(), got, j.Over(), code, used, over)
	}
}

func TestRounds(t *testing.T) {
	one, two := counter(1, 5), counter(2, 3)
	q := queue(one, two)
	wantJob(t, one, api.OK, 0, false)
	wantRound(t, q, 2, nil)
	wantJob(t, one, api.OK, 2, false)
	wantJob(t, two, api.OK, 0, false)
	wantRound(t, q, 2, nil)
	wantRound(t, q, 2, nil)
	wantJob(t, one, api.OK, 4, false)
	wantRound(t, q, 2, two)
	wantJob(t, two, api.ErrFuel, 3, true)
	wantRound(t, q, 2, one)
	wantJob(t, one, api.ErrFuel, 5, true)
	wantRound(t, q, 2, nil)
}

func TestNoJobs(t *testing.T) {
	wantRound(t, &Queue{}, 1, nil)
	only := empty(1)
	q := queue(only)
	wantRound(t, q, 1, only)
	wantJob(t, only, api.OK, 0, true)
	wantRound(t, q, 1, nil)
}

// TestLeastNumber: of jobs that have used the same, whatever the order in which they came.
func TestLeastNumber(t *testing.T) {
	for _, order := range [][]int{{1, 2, 3, 4, 5}, {5, 4, 3, 2, 1}, {3, 5, 1, 4, 2}} {
		jobs := map[int]*Job{}
		q := &Queue{}
		for _, number := range order {
			jobs[number] = counter(number, 6)
			q.Add(jobs[number])
		}
		for turn := range 2 {
			for number := 1; number <= len(order); number++ {
				wantJob(t, jobs[number], api.OK, 2*turn, false)
				wantRound(t, q, 2, nil)
				wantJob(t, jobs[number], api.OK, 2*turn+2, false)
			}
		}
		for number := 1; number <= len(order); number++ {
			wantRound(t, q, 2, jobs[number])
		}
	}
}

// TestLate: one that comes behind some rounds has used the fewest units, and goes on first.
func TestLate(t *testing.T) {
	one, two := counter(1, 9), counter(2, 9)
	q := queue(one)
	wantRound(t, q, 4, nil)
	q.Add(two)
	wantRound(t, q, 3, nil)
	wantJob(t, one, api.OK, 4, false)
	wantJob(t, two, api.OK, 3, false)
	wantRound(t, q, 3, nil)
	wantJob(t, two, api.OK, 6, false)
	wantRound(t, q, 3, nil)
	wantJob(t, one, api.OK, 7, false)
}

// TestDrop: whichever is dropped, the others keep their order.
func TestDrop(t *testing.T) {
	for number := 1; number <= 5; number++ {
		for rounds := range 11 {
			var jobs []*Job
			for n := 1; n <= 5; n++ {
				jobs = append(jobs, counter(n, 99))
			}
			q := queue(jobs...)
			for range rounds {
				q.Round(3)
			}
			dropped := jobs[number-1]
			used := dropped.Outcome().Used
			q.Drop(dropped)
			wantJob(t, dropped, api.OK, used, true)
			q.Drop(dropped)
			for range 20 - (rounds - used/3) {
				wantRound(t, q, 3, nil)
			}
			for _, j := range jobs {
				if j != dropped {
					wantJob(t, j, api.OK, 15, false)
				}
			}
			wantJob(t, dropped, api.OK, used, true)
		}
	}
}

func TestDropTheOnly(t *testing.T) {
	one, stranger := counter(1, 9), counter(2, 9)
	q := queue(one)
	q.Drop(stranger)
	wantJob(t, stranger, api.OK, 0, false)
	q.Drop(one)
	wantRound(t, q, 3, nil)
	wantJob(t, one, api.OK, 0, true)
}

// TestOwnLists: a list that came out may be written over.
func TestOwnLists(t *testing.T) {
	one := counter(1, 4)
	q := queue(one)
	for range 2 {
		q.Round(2)
		out := one.Outcome().Out
		for i := range out {
			out[i] = 99
		}
		_ = append(out, 99)
	}
	wantJob(t, one, api.ErrFuel, 4, true)
}
