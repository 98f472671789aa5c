package turns

import (
	"container/heap"
	"slices"
)

// Queue is jobs that have not ended. One without jobs is ready to use.
type Queue struct {
	jobs jobHeap
}

// Add lays a job into it that has not ended.
func (q *Queue) Add(j *Job) { heap.Push(&q.jobs, j) }

// Round lets the first job go on for so many units. It answers that job, if it has ended thereby; else nil.
func (q *Queue) Round(units int) *Job {
	if q.jobs.Len() == 0 {
		return nil
	}
	first := q.jobs[0]
	first.goOn(units)
	if first.Over() {
		heap.Pop(&q.jobs)
		return first
	}
	heap.Fix(&q.jobs, 0)
	return nil
}

// Drop ends a job by no round. One that is not there stays as it is.
func (q *Queue) Drop(j *Job) {
	at := slices.Index(q.jobs, j)
	if at < 0 {
		return
	}
	heap.Remove(&q.jobs, at)
	j.end()
}

// jobHeap is for package heap: the job that goes on first stands at 0.
type jobHeap []*Job

func (h jobHeap) Len() int { return len(h) }

func (h jobHeap) Less(i, k int) bool { return h[i].ahead(h[k]) }

func (h jobHeap) Swap(i, k int) { h[i], h[k] = h[k], h[i] }

func (h *jobHeap) Push(x any) { *h = append(*h, x.(*Job)) }

func (h *jobHeap) Pop() any {
	last := len(*h) - 1
	j := (*h)[last]
	// The place stays in memory behind the end, and must not keep the job.
	(*h)[last] = nil
	*h = (*h)[:last]
	return j
}
