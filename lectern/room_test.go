package lectern

import (
	"math"
	"slices"
	"strings"
	"testing"

	"lectern/api"
)

const (
	three   = "begin write 1; write 2; write 3 end."
	forever = "begin while 1 do begin end end."
	counts  = "var n; begin while n < 200 do n := n + 1; write n end."
)

// lined is a room, and what is wanted of it. It writes over every list that it hands in or gets, behind the call.
type lined struct {
	*testing.T
	room *Room
}

func newLined(t *testing.T, slice int) lined {
	t.Helper()
	r, code := NewRoom(slice)
	if r == nil || code != api.OK {
		t.Fatalf("P5: NewRoom(%d) = %v, %d", slice, r, code)
	}
	return lined{t, r}
}

func spoil(list []int) {
	for i := range list {
		list[i] = 9999
	}
	_ = append(list, 9999)
}

func (l lined) submit(number int, text string, fuel int, input ...int) {
	l.Helper()
	if n, code, at := l.room.Submit(text, input, fuel); n != number || code != api.OK || at != 0 {
		l.Errorf("P5: Submit(%q, .., %d) = %d, %d, %d, want %d", text, fuel, n, code, at, number)
	}
	spoil(input)
}

func (l lined) noSubmit(text string, fuel int, input []int, code api.Errno, at int) {
	l.Helper()
	kept := slices.Clone(input)
	if n, gotCode, gotAt := l.room.Submit(text, input, fuel); n != 0 || gotCode != code || gotAt != at {
		l.Errorf("P5: Submit(%.40q, %v, %d) = %d, %d, %d, want %d, %d", text, input, fuel, n, gotCode, gotAt, code, at)
	}
	if !slices.Equal(input, kept) {
		l.Errorf("P2: Submit(%.40q, ..) made %v of the input %v", text, input, kept)
	}
}

func (l lined) tick(rounds int, ended ...int) {
	l.Helper()
	got, code := l.room.Tick(rounds)
	if !slices.Equal(got, ended) || code != api.OK {
		l.Errorf("P5: Tick(%d) = %v, %d, want %v", rounds, got, code, ended)
	}
	spoil(got)
}

func (l lined) job(number int, code api.Errno, used, over int, out ...int) {
	l.Helper()
	got, gotOver, fault := l.room.Job(number)
	if got.Code != code || got.Used != used || gotOver != over || !slices.Equal(got.Out, out) || fault != api.OK {
		l.Errorf("P5: Job(%d) = %v, %d, %d, want %d, %v, %d, %d", number, got, gotOver, fault, code, out, used, over)
	}
	spoil(got.Out)
}

func (l lined) drop(number int, code api.Errno) {
	l.Helper()
	if got := l.room.Drop(number); got != code {
		l.Errorf("P5: Drop(%d) = %d, want %d", number, got, code)
	}
}

func TestRoomExample(t *testing.T) {
	l := newLined(t, 2)
	l.submit(1, three, 9)
	l.submit(2, three, 9)
	l.tick(3, 1)
	l.tick(1, 2)
	l = newLined(t, 2)
	l.submit(1, three, 9)
	l.submit(2, three, 9)
	l.job(1, api.OK, 0, 0)
	l.tick(1)
	l.job(1, api.OK, 2, 0, 1, 2)
	l.job(2, api.OK, 0, 0)
	l.tick(1)
	l.job(2, api.OK, 2, 0, 1, 2)
	l.tick(1, 1)
	l.job(1, api.OK, 3, 1, 1, 2, 3)
	l.job(2, api.OK, 2, 0, 1, 2)
	l.tick(1, 2)
	l.job(2, api.OK, 3, 1, 1, 2, 3)
}

// TestRoundByRound: three jobs, of which one reads, one calls, and one comes to an error.
func TestRoundByRound(t *testing.T) {
	l := newLined(t, 4)
	l.submit(1, squares, 20, 3)
	l.submit(2, factorial, 20)
	l.submit(3, "var a[2], i; begin while 1 do begin a[i] := i; write a[i]; i := i + 1 end end.", 20)
	l.tick(1)
	l.job(1, api.OK, 4, 0, 9)
	l.tick(1)
	l.job(2, api.OK, 4, 0)
	l.tick(1)
	l.job(3, api.OK, 4, 0, 0)
	l.tick(1)
	l.job(1, api.OK, 8, 0, 9, 4)
	l.tick(2)
	l.job(2, api.OK, 8, 0)
	l.job(3, api.OK, 8, 0, 0, 1)
	l.tick(1, 1)
	l.job(1, api.OK, 11, 1, 9, 4, 1)
	l.tick(1)
	l.job(2, api.OK, 12, 0)
	l.tick(1, 3)
	l.job(3, api.ErrIndex, 10, 1, 0, 1)
	l.job(2, api.OK, 12, 0)
	l.tick(1, 2)
	l.job(2, api.OK, 16, 1, 120)
	l.tick(1)
}

// TestOrderOfEnds: Tick tells them in the order in which they ended, not in that of their numbers.
func TestOrderOfEnds(t *testing.T) {
	l := newLined(t, 2)
	l.submit(1, forever, 5)
	l.submit(2, forever, 3)
	l.submit(3, forever, 1)
	l.submit(4, "begin write 1 / 0 end.", 9)
	l.submit(5, "begin end.", 9)
	l.tick(api.MaxRounds, 3, 4, 5, 2, 1)
	l.job(1, api.ErrFuel, 5, 1)
	l.job(2, api.ErrFuel, 3, 1)
	l.job(3, api.ErrFuel, 1, 1)
	l.job(4, api.ErrDiv, 1, 1)
	l.job(5, api.OK, 0, 1)
}

func TestLeastSlice(t *testing.T) {
	l := newLined(t, 1)
	l.submit(1, three, 9)
	l.submit(2, three, 9)
	for used := 1; used < 3; used++ {
		l.tick(1)
		l.job(1, api.OK, used, 0, []int{1, 2, 3}[:used]...)
		l.job(2, api.OK, used-1, 0, []int{1, 2, 3}[:used-1]...)
		l.tick(1)
		l.job(2, api.OK, used, 0, []int{1, 2, 3}[:used]...)
	}
	l.tick(2, 1, 2)
}

func TestMostSlice(t *testing.T) {
	l := newLined(t, api.MaxSlice)
	l.submit(1, forever, api.MaxSlice-1)
	l.submit(2, forever, api.MaxSlice)
	l.submit(3, forever, api.MaxSlice+1)
	l.submit(4, counts, api.MaxFuel)
	l.tick(4, 1, 2)
	l.job(1, api.ErrFuel, api.MaxSlice-1, 1)
	l.job(2, api.ErrFuel, api.MaxSlice, 1)
	l.job(3, api.OK, api.MaxSlice, 0)
	l.job(4, api.OK, api.MaxSlice, 0)
	l.tick(1, 3)
	l.job(3, api.ErrFuel, api.MaxSlice+1, 1)
	l.tick(6)
	l.job(4, api.OK, 7*api.MaxSlice, 0)
	l.tick(2, 4)
	l.job(4, api.OK, 402, 1, 200)
}

// TestSliceUsed: a job that has used slice units ends in that round, if nothing more is due, or if all its fuel is used, too.
func TestSliceUsed(t *testing.T) {
	l := newLined(t, 3)
	l.submit(1, three, 9)
	l.submit(2, three, 3)
	l.submit(3, forever, 3)
	l.submit(4, "begin write 1; write 2; write 3; write 4 end.", 4)
	l.submit(5, "begin write 1; write 2; write 1 % 0; write 4 end.", 9)
	l.tick(5, 1, 2, 3, 5)
	l.job(1, api.OK, 3, 1, 1, 2, 3)
	l.job(2, api.OK, 3, 1, 1, 2, 3)
	l.job(3, api.ErrFuel, 3, 1)
	l.job(4, api.OK, 3, 0, 1, 2, 3)
	l.job(5, api.ErrDiv, 3, 1, 1, 2)
	l.tick(1, 4)
	l.job(4, api.OK, 4, 1, 1, 2, 3, 4)
}

// TestSecondSliceUsed is the same for a later round.
func TestSecondSliceUsed(t *testing.T) {
	l := newLined(t, 2)
	l.submit(1, "begin write 1; write 2; write 3; write 4 end.", 9)
	l.submit(2, forever, 4)
	l.submit(3, forever, 5)
	l.tick(3)
	l.tick(3, 1, 2)
	l.job(1, api.OK, 4, 1, 1, 2, 3, 4)
	l.job(2, api.ErrFuel, 4, 1)
	l.job(3, api.OK, 4, 0)
	l.tick(1, 3)
	l.job(3, api.ErrFuel, 5, 1)
}

// TestSliceUsedInCalls: a func's unit is due behind its arguments and behind ErrCalls, which end a job though its slice is used.
func TestSliceUsedInCalls(t *testing.T) {
	l := newLined(t, 1)
	l.submit(1, "func f(a) begin write a; f := a end; begin write f(1 / 0) end.", 9)
	l.submit(2, "func f(a) begin write a; f := a end; begin write f(7) end.", 9)
	l.submit(3, "func f(n) begin f := f(n) end; begin write f(1) end.", 99)
	l.submit(4, "proc p() begin p() end; begin p() end.", 99)
	l.tick(4, 1)
	l.job(1, api.ErrDiv, 1, 1)
	l.tick(3)
	l.job(2, api.OK, 2, 0)
	l.tick(3)
	l.job(2, api.OK, 3, 0, 7)
	l.tick(3, 2)
	l.job(2, api.OK, 4, 1, 7, 7)
	l.tick(2 * 26)
	l.job(4, api.OK, 30, 0)
	l.tick(2, 4)
	l.job(4, api.ErrCalls, 31, 1)
	l.job(3, api.OK, 31, 0)
	l.tick(29)
	l.job(3, api.OK, 60, 0)
	l.tick(1, 3)
	l.job(3, api.ErrCalls, 61, 1)
}

func TestNoFuel(t *testing.T) {
	l := newLined(t, 2)
	l.submit(1, three, 0)
	l.submit(2, "begin end.", 0)
	l.job(1, api.OK, 0, 0)
	l.job(2, api.OK, 0, 0)
	l.tick(0)
	l.job(1, api.OK, 0, 0)
	l.tick(1, 1)
	l.job(1, api.ErrFuel, 0, 1)
	l.job(2, api.OK, 0, 0)
	l.tick(1, 2)
	l.job(2, api.OK, 0, 1)
}

func TestRounds(t *testing.T) {
	l := newLined(t, 1)
	l.tick(0)
	l.tick(api.MaxRounds)
	l.submit(1, forever, api.MaxFuel)
	l.tick(0)
	l.job(1, api.OK, 0, 0)
	for turn := 1; turn < api.MaxFuel/api.MaxRounds; turn++ {
		l.tick(api.MaxRounds)
		l.job(1, api.OK, turn*api.MaxRounds, 0)
	}
	l.tick(api.MaxRounds - 1)
	l.job(1, api.OK, api.MaxFuel-1, 0)
	l.tick(1, 1)
	l.job(1, api.ErrFuel, api.MaxFuel, 1)
	l.tick(api.MaxRounds)
	l.job(1, api.ErrFuel, api.MaxFuel, 1)
	l.submit(2, forever, api.MaxRounds)
	l.tick(api.MaxRounds, 2)
}

// TestAllEnded: rounds change nothing then, and a new job goes on as ever.
func TestAllEnded(t *testing.T) {
	l := newLined(t, 5)
	l.submit(1, three, 9)
	l.submit(2, three, 1)
	l.tick(9, 1, 2)
	l.tick(api.MaxRounds)
	l.job(1, api.OK, 3, 1, 1, 2, 3)
	l.job(2, api.ErrFuel, 1, 1, 1)
	l.submit(3, three, 9)
	l.job(3, api.OK, 0, 0)
	l.tick(1, 3)
	l.job(3, api.OK, 3, 1, 1, 2, 3)
}

func TestSameUsed(t *testing.T) {
	l := newLined(t, 3)
	for number := 1; number <= api.MaxJobs; number++ {
		l.submit(number, forever, 100)
	}
	for turn := range 4 {
		for number := 1; number <= api.MaxJobs; number++ {
			l.job(number, api.OK, 3*turn, 0)
			l.tick(1)
			l.job(number, api.OK, 3*turn+3, 0)
		}
	}
}

// TestLate: a job that comes later has used nothing, and goes on till it has caught up.
func TestLate(t *testing.T) {
	l := newLined(t, 5)
	l.submit(1, forever, 100)
	l.tick(3)
	l.submit(2, forever, 100)
	l.job(2, api.OK, 0, 0)
	for used := 5; used <= 15; used += 5 {
		l.tick(1)
		l.job(1, api.OK, 15, 0)
		l.job(2, api.OK, used, 0)
	}
	l.tick(1)
	l.job(1, api.OK, 20, 0)
	l.submit(3, three, 9)
	l.tick(1, 3)
	l.tick(1)
	l.job(1, api.OK, 20, 0)
	l.job(2, api.OK, 20, 0)
}

func TestDrop(t *testing.T) {
	l := newLined(t, 2)
	l.submit(1, three, 9)
	l.submit(2, three, 9)
	l.submit(3, three, 9)
	l.tick(1)
	l.drop(1, api.OK)
	l.job(1, api.OK, 2, 1, 1, 2)
	l.drop(3, api.OK)
	l.job(3, api.OK, 0, 1)
	l.tick(2, 2)
	l.tick(api.MaxRounds)
	l.job(1, api.OK, 2, 1, 1, 2)
	l.job(2, api.OK, 3, 1, 1, 2, 3)
	l.job(3, api.OK, 0, 1)
	for number := 1; number <= 3; number++ {
		l.drop(number, api.ErrOver)
	}
	l.submit(4, three, 2)
	l.tick(1, 4)
	l.drop(4, api.ErrOver)
	l.job(4, api.ErrFuel, 2, 1, 1, 2)
}

// TestDropAmong: whichever of some is dropped, the others take turns as if it had not come.
func TestDropAmong(t *testing.T) {
	for number := 1; number <= api.MaxJobs; number++ {
		l := newLined(t, 4)
		for n := 1; n <= api.MaxJobs; n++ {
			l.submit(n, forever, 20)
		}
		l.tick(api.MaxJobs)
		l.drop(number, api.OK)
		l.tick(api.MaxJobs - 1)
		var others []int
		for n := 1; n <= api.MaxJobs; n++ {
			if n == number {
				l.job(n, api.OK, 4, 1)
				continue
			}
			others = append(others, n)
			l.job(n, api.OK, 8, 0)
		}
		l.tick(2 * len(others))
		l.tick(len(others), others...)
		l.drop(number, api.ErrOver)
	}
}

// TestMany: those that have ended, or were dropped, are jobs of the room still. ErrMany comes behind the errors of Run.
func TestMany(t *testing.T) {
	l := newLined(t, 2)
	for number := 1; number <= api.MaxJobs; number++ {
		l.submit(number, three, number)
	}
	wantFull := func() {
		t.Helper()
		l.noSubmit(three, 9, nil, api.ErrMany, 0)
		l.noSubmit(three, 0, []int{1}, api.ErrMany, 0)
		wantRefused(l)
	}
	wantFull()
	l.tick(2, 1, 2)
	l.drop(3, api.OK)
	wantFull()
	l.tick(4, 4, 5)
	wantFull()
	l.job(5, api.OK, 3, 1, 1, 2, 3)
	if outcome, over, code := l.room.Job(6); code != api.ErrJob || over != 0 || outcome.Used != 0 {
		t.Errorf("P5: Job(6) = %v, %d, %d", outcome, over, code)
	}
}

// wantRefused: the errors of Run, from Submit.
func wantRefused(l lined) {
	l.Helper()
	deep := "begin write 1; write " + strings.Repeat("(", api.MaxDeep-1)
	for _, c := range []struct {
		text string
		code api.Errno
		at   int
	}{
		{strings.Repeat("?", api.MaxText+1), api.ErrLong, 0},
		{"begin write 1; ? end.", api.ErrToken, 15},
		{"begin write 1; write 2147483648 end.", api.ErrNumber, 21},
		{"begin write 1 end", api.ErrSyntax, 17},
		{deep + "1", api.ErrDeep, len(deep)},
		{"begin write 1; write x end.", api.ErrName, 21},
		{"proc p() begin end; begin write 1; p(1) end.", api.ErrArgs, 35},
		{"var a[21]; begin write 1 end.", api.ErrNumber, 6},
	} {
		l.noSubmit(c.text, 9, []int{1}, c.code, c.at)
		l.noSubmit(c.text, -1, []int{math.MaxInt32 + 1}, c.code, c.at)
	}
	for _, fuel := range []int{-1, api.MaxFuel + 1, math.MinInt, math.MaxInt} {
		l.noSubmit(three, fuel, []int{math.MaxInt32 + 1}, api.ErrFuel, 0)
	}
	for _, number := range []int{math.MaxInt32 + 1, math.MinInt32 - 1, math.MinInt, math.MaxInt} {
		l.noSubmit(three, 9, []int{1, number}, api.ErrInput, 0)
	}
}

func TestNewRoom(t *testing.T) {
	for _, slice := range []int{0, -1, api.MaxSlice + 1, math.MinInt, math.MaxInt} {
		if r, code := NewRoom(slice); r != nil || code != api.ErrSlice {
			t.Errorf("P5: NewRoom(%d) = %v, %d", slice, r, code)
		}
	}
	for slice := 1; slice <= api.MaxSlice; slice++ {
		newLined(t, slice)
	}
}

// wantWrongs: all errors of a room with four jobs, of which the first two have ended.
func wantWrongs(l lined) {
	l.Helper()
	wantRefused(l)
	for _, rounds := range []int{-1, api.MaxRounds + 1, math.MinInt, math.MaxInt} {
		if ended, code := l.room.Tick(rounds); len(ended) != 0 || code != api.ErrCount {
			l.Errorf("P5: Tick(%d) = %v, %d", rounds, ended, code)
		}
	}
	for _, number := range []int{0, -1, 5, 6, math.MinInt, math.MaxInt} {
		l.drop(number, api.ErrJob)
		if o, over, code := l.room.Job(number); code != api.ErrJob || over != 0 || o.Code != api.OK || o.Used != 0 || len(o.Out) != 0 {
			l.Errorf("P5: Job(%d) = %v, %d, %d", number, o, over, code)
		}
	}
	l.drop(1, api.ErrOver)
	l.drop(2, api.ErrOver)
}

// TestWrongs: with an error nothing changes, whenever it comes.
func TestWrongs(t *testing.T) {
	l := newLined(t, 2)
	l.submit(1, three, 1)
	l.submit(2, three, 9)
	l.submit(3, squares, 99, 3)
	l.submit(4, factorial, 99)
	l.tick(2, 1)
	l.drop(2, api.OK)
	wantWrongs(l)
	for used := 2; used < 10; used += 2 {
		l.job(1, api.ErrFuel, 1, 1, 1)
		l.job(2, api.OK, 2, 1, 1, 2)
		l.tick(1)
		wantWrongs(l)
		l.job(3, api.OK, used, 0, []int{9, 4, 1}[:used/3]...)
		l.tick(1)
		wantWrongs(l)
		l.job(4, api.OK, used, 0)
	}
	l.tick(3, 3)
	wantWrongs(l)
	l.job(3, api.OK, 11, 1, 9, 4, 1)
	l.tick(3, 4)
	wantWrongs(l)
	l.job(4, api.OK, 16, 1, 120)
}

// TestRoomsAlone: rooms that take turns with one another answer as they do alone.
func TestRoomsAlone(t *testing.T) {
	one, other := newLined(t, 2), newLined(t, 3)
	one.submit(1, three, 9)
	other.submit(1, squares, 20, 2)
	one.submit(2, squares, 20, 1)
	if _, _, code := other.room.Job(2); code != api.ErrJob {
		t.Errorf("P2: a job of one room is told by another: %d", code)
	}
	other.tick(1)
	one.job(1, api.OK, 0, 0)
	other.job(1, api.OK, 3, 0, 4)
	one.tick(1)
	other.tick(1)
	one.job(1, api.OK, 2, 0, 1, 2)
	other.job(1, api.OK, 6, 0, 4, 1)
	one.drop(1, api.OK)
	other.drop(2, api.ErrJob)
	other.submit(2, three, 9)
	other.tick(2, 2, 1)
	other.job(1, api.OK, 8, 1, 4, 1)
	one.job(1, api.OK, 2, 1, 1, 2)
	one.tick(2)
	one.job(2, api.OK, 4, 0, 1)
	one.tick(1, 2)
	one.job(2, api.OK, 5, 1, 1)
}

// TestListsOfRooms: two lists that came out share no memory.
func TestListsOfRooms(t *testing.T) {
	l := newLined(t, 2)
	input := []int{4, 5, 6}
	if n, code, _ := l.room.Submit("var a; begin read a; write a; read a; write a; read a; write a end.", input, 9); n != 1 || code != api.OK {
		t.Fatalf("P5: Submit = %d, %d", n, code)
	}
	if !slices.Equal(input, []int{4, 5, 6}) {
		t.Errorf("P2: the input became %v", input)
	}
	spoil(input)
	l.tick(2)
	first, _, _ := l.room.Job(1)
	second, _, _ := l.room.Job(1)
	first.Out[0] = 99
	if !slices.Equal(second.Out, []int{4, 5}) {
		t.Errorf("P2: with another list this one became %v", second.Out)
	}
	l.tick(1, 1)
	if !slices.Equal(first.Out, []int{99, 5}) || !slices.Equal(second.Out, []int{4, 5}) {
		t.Errorf("P2: behind a round the lists are %v and %v", first.Out, second.Out)
	}
	l.job(1, api.OK, 6, 1, 4, 5, 6)
	l.job(1, api.OK, 6, 1, 4, 5, 6)
}
