package lectern

import (
	"math/rand"
	"slices"
	"testing"

	"lectern/api"
)

// model answers what a room must, in another way: to know how a job stands when it has used so many units, it walks it from the start with that fuel; and it looks for the one that goes on among all jobs.
type model struct {
	slice int
	jobs  []*modelJob
}

type modelJob struct {
	number  int
	text    string
	input   []int
	fuel    int
	outcome api.Outcome
	over    int
}

func (m *model) submit(text string, input []int, fuel int) (int, api.Errno, int) {
	if _, code, at := Run(text, input, fuel); code != api.OK {
		return 0, code, at
	}
	if len(m.jobs) == api.MaxJobs {
		return 0, api.ErrMany, 0
	}
	number := len(m.jobs) + 1
	m.jobs = append(m.jobs, &modelJob{number: number, text: text, input: slices.Clone(input), fuel: fuel})
	return number, api.OK, 0
}

func (m *model) first() *modelJob {
	var first *modelJob
	for _, j := range m.jobs {
		if j.over == 0 && (first == nil || j.outcome.Used < first.outcome.Used) {
			first = j
		}
	}
	return first
}

func (m *model) tick(rounds int) []int {
	var ended []int
	for range rounds {
		j := m.first()
		if j == nil {
			break
		}
		most := min(j.outcome.Used+m.slice, j.fuel)
		j.outcome = walk(j.text, j.input, most)
		if j.outcome.Code == api.ErrFuel && most < j.fuel {
			j.outcome.Code = api.OK
			continue
		}
		j.over = 1
		ended = append(ended, j.number)
	}
	return ended
}

func (m *model) drop(number int) api.Errno {
	if number < 1 || number > len(m.jobs) {
		return api.ErrJob
	}
	if m.jobs[number-1].over == 1 {
		return api.ErrOver
	}
	m.jobs[number-1].over = 1
	return api.OK
}

// shortFuel is small, as the model walks a job anew in each round.
func (p *programmer) shortFuel() int {
	return p.Intn([]int{5, 40, 400}[p.Intn(3)])
}

func (p *programmer) slice() int {
	return []int{1, 2, 3, 7, 20, api.MaxSlice}[p.Intn(6)]
}

// jobText is a made program, or one that ends by its own faults, or at once, or never, or is none.
func (p *programmer) jobText() string {
	if p.Intn(3) == 0 {
		return p.pick(three, forever, counts, "begin while 1 do write 7 end.", squares, factorial, "begin end.", "begin write x end.", "begin write 1 / 0 end.")
	}
	return p.text()
}

// TestModel: rooms and models are given the same calls, in any order, and answer the same.
func TestModel(t *testing.T) {
	p := &programmer{Rand: rand.New(rand.NewSource(2))}
	told := map[api.Errno]int{}
	for range 400 {
		m := &model{slice: p.slice()}
		l := newLined(t, m.slice)
		for range 40 {
			told[p.callBoth(l, m)]++
			for _, j := range m.jobs {
				l.job(j.number, j.outcome.Code, j.outcome.Used, j.over, j.outcome.Out...)
				told[j.outcome.Code]++
			}
		}
		if t.Failed() {
			return
		}
	}
	for _, code := range []api.Errno{api.OK, api.ErrName, api.ErrFuel, api.ErrIndex, api.ErrDiv, api.ErrInput, api.ErrOut, api.ErrCalls, api.ErrMany, api.ErrJob, api.ErrOver} {
		if told[code] < 80 {
			t.Errorf("only %d answers are %d: too few to tell", told[code], code)
		}
	}
}

// callBoth makes some call, and answers its error.
func (p *programmer) callBoth(l lined, m *model) api.Errno {
	l.Helper()
	switch n := p.Intn(10); {
	case n < 3:
		text, input, fuel := p.jobText(), p.input(), p.shortFuel()
		number, code, at := m.submit(text, input, fuel)
		if code != api.OK {
			l.noSubmit(text, fuel, input, code, at)
			return code
		}
		l.submit(number, text, fuel, input...)
	case n < 9:
		rounds := []int{0, 1, 1, 2, 5, 30}[p.Intn(6)]
		l.tick(rounds, m.tick(rounds)...)
	default:
		number := p.Intn(api.MaxJobs + 2)
		code := m.drop(number)
		l.drop(number, code)
		return code
	}
	return api.OK
}

// TestFollows: jobs that are there from the beginning have what Run tells when they have ended, and a beginning of that ahead of it; and none is more than a slice ahead of another.
func TestFollows(t *testing.T) {
	p := &programmer{Rand: rand.New(rand.NewSource(3))}
	for range 1000 {
		slice := 1 + p.Intn(api.MaxSlice)
		l := newLined(t, slice)
		var wants []api.Outcome
		for count := 1 + p.Intn(api.MaxJobs); len(wants) < count; {
			text, input, fuel := p.jobText(), p.input(), p.fuel()
			if want, code, _ := Run(text, input, fuel); code == api.OK {
				wants = append(wants, want)
				l.submit(len(wants), text, fuel, input...)
			}
		}
		ended := map[int]int{}
		for round := 0; len(ended) < len(wants); round++ {
			numbers, _ := l.room.Tick(1)
			for _, number := range numbers {
				ended[number]++
			}
			wantFollows(l, slice, wants, ended)
			if t.Failed() || round > len(wants)*(api.MaxFuel+1) {
				t.Fatalf("P6: behind round %d of %d jobs %v have ended", round, len(wants), ended)
			}
		}
	}
}

func wantFollows(l lined, slice int, wants []api.Outcome, ended map[int]int) {
	l.Helper()
	var used []int
	for i, want := range wants {
		number := i + 1
		if ended[number] == 1 {
			l.job(number, want.Code, want.Used, 1, want.Out...)
			continue
		}
		got, over, _ := l.room.Job(number)
		used = append(used, got.Used)
		if over != 0 || got.Code != api.OK || got.Used > want.Used || len(got.Out) > len(want.Out) || !slices.Equal(got.Out, want.Out[:len(got.Out)]) {
			l.Errorf("P6: Job(%d) = %v, %d on the way to %v", number, got, over, want)
		}
	}
	if len(used) > 0 && slices.Max(used)-slices.Min(used) > slice {
		l.Errorf("P6: with the slice %d the jobs have used %v", slice, used)
	}
}
