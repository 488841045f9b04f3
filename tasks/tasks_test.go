package tasks_test

import (
	"fmt"
	"math"
	"math/big"
	"reflect"
	"slices"
	"testing"

	"ostinato/api"
	"ostinato/tasks"
)

const most = math.MaxInt64

// plain is a task that is right for 4 sets, and has both lists.
func plain() api.Task {
	return api.Task{ID: 3, C: 6, D: 8, T: 10, Prio: 5, Chunks: []int64{2, 3, 1}, Use: []int{0, 3, 3}}
}

// with is a plain task that was changed.
func with(change func(t *api.Task)) api.Task {
	t := plain()
	change(&t)
	return t
}

// small is a task that is right for any sets, of that ID and Prio.
func small(id, prio int) api.Task {
	return api.Task{ID: id, C: 1, D: 1, T: 1, Prio: prio}
}

// system is a cache of 4 sets and a reload of 2, with those tasks.
func system(l ...api.Task) api.System {
	return api.System{Sets: 4, Reload: 2, Tasks: l}
}

// many are so many tasks that are right together, as far as their IDs go.
func many(n int) []api.Task {
	var l []api.Task
	for i := range n {
		l = append(l, small(i+1, n-i))
	}
	return l
}

// copied is s with lists of its own.
func copied(s api.System) api.System {
	s.Tasks = slices.Clone(s.Tasks)
	for i := range s.Tasks {
		s.Tasks[i].Chunks = slices.Clone(s.Tasks[i].Chunks)
		s.Tasks[i].Use = slices.Clone(s.Tasks[i].Use)
	}
	return s
}

// ids are the tasks' IDs, in order.
func ids(l []api.Task) []int {
	var all []int
	for _, t := range l {
		all = append(all, t.ID)
	}
	return all
}

// is holds what was told against what ought to be.
func is(t *testing.T, what, got, want any) {
	t.Helper()
	if g, w := fmt.Sprintf("%+v", got), fmt.Sprintf("%+v", want); g != w {
		t.Errorf("%v: %s, want %s", what, g, w)
	}
}

// drawer tells numbers below n, the same ones at every start.
func drawer() func(n int) int {
	x := uint64(88172645463325252)
	return func(n int) int {
		x ^= x << 13
		x ^= x >> 7
		x ^= x << 17
		return int(x>>1) % n
	}
}

// The chapter's example.
func TestExample(t *testing.T) {
	is(t, "Ends", tasks.Ends(api.Task{ID: 1, C: 6, D: 6, T: 6, Prio: 1, Chunks: []int64{2, 3, 1}}), []int64{2, 5, 6})
}

// P5.1: IDs and priorities, on both sides of each edge.
func TestRightNumbers(t *testing.T) {
	is(t, "a plain task", tasks.Right(plain(), 4), api.OK)
	for n, want := range map[int]api.Errno{
		math.MinInt: api.ErrArg, -99: api.ErrArg, -1: api.ErrArg, 0: api.ErrArg, 1: api.OK, 2: api.OK, 50: api.OK,
		98: api.OK, 99: api.OK, 100: api.ErrArg, 256 + 1: api.ErrArg, 1<<32 + 1: api.ErrArg, math.MaxInt: api.ErrArg,
	} {
		is(t, fmt.Sprint("ID ", n), tasks.Right(with(func(t *api.Task) { t.ID = n }), 4), want)
		is(t, fmt.Sprint("Prio ", n), tasks.Right(with(func(t *api.Task) { t.Prio = n }), 4), want)
	}
}

// P5.1: work, deadlines and periods, on both sides of each edge.
func TestRightTimes(t *testing.T) {
	for _, c := range []struct {
		c, d, t int64
		want    api.Errno
	}{
		{1, 1, 1, api.OK}, {1, 2, 3, api.OK}, {2, 2, 3, api.OK}, {1, 3, 3, api.OK}, {5, 8, 10, api.OK},
		{1 << 30, 1 << 30, 1 << 30, api.OK}, {1, 1, 1 << 30, api.OK}, {1, 1 << 30, 1 << 30, api.OK}, {1<<30 - 1, 1 << 30, 1 << 30, api.OK},
		{0, 1, 1, api.ErrForm}, {-1, 1, 1, api.ErrForm}, {0, 0, 0, api.ErrForm}, {math.MinInt64, 1, 1, api.ErrForm},
		{2, 1, 1, api.ErrForm}, {2, 1, 3, api.ErrForm}, {1, 0, 1, api.ErrForm}, {1, -1, 1, api.ErrForm}, {1, math.MinInt64, 1, api.ErrForm},
		{1, 2, 1, api.ErrForm}, {1, 3, 2, api.ErrForm}, {1, 1, 0, api.ErrForm}, {1, 1, -1, api.ErrForm}, {1, 1, math.MinInt64, api.ErrForm},
		{1, 1, 1<<30 + 1, api.ErrForm}, {1, 1<<30 + 1, 1<<30 + 1, api.ErrForm}, {1<<30 + 1, 1<<30 + 1, 1<<30 + 1, api.ErrForm},
		{1, 1<<30 + 1, 1 << 30, api.ErrForm}, {1, 1, 1 << 32, api.ErrForm}, {1, 1, most, api.ErrForm}, {most, most, most, api.ErrForm},
		{1 << 32, 1 << 31, 1 << 30, api.ErrForm}, {-3, -2, -1, api.ErrForm},
	} {
		is(t, fmt.Sprint("C, D, T ", c.c, c.d, c.t), tasks.Right(api.Task{ID: 1, C: c.c, D: c.d, T: c.t, Prio: 1}, 4), c.want)
	}
}

// ones are so many chunks of 1.
func ones(n int) []int64 { return slices.Repeat([]int64{1}, n) }

// P5.1: chunks, how many there may be, which numbers, and their sum.
func TestRightChunks(t *testing.T) {
	for _, c := range []struct {
		c    int64
		l    []int64
		want api.Errno
	}{
		{6, nil, api.OK}, {6, []int64{}, api.OK}, {6, []int64{6}, api.OK}, {6, []int64{1, 5}, api.OK}, {6, []int64{5, 1}, api.OK},
		{6, []int64{2, 2, 2}, api.OK}, {6, ones(6), api.OK}, {63, ones(63), api.OK}, {64, ones(64), api.OK},
		{1 << 30, []int64{1 << 30}, api.OK}, {1 << 30, []int64{1<<30 - 1, 1}, api.OK}, {1 << 30, append(ones(63), 1<<30-63), api.OK},
		{6, []int64{5}, api.ErrState}, {6, []int64{7}, api.ErrState}, {6, []int64{2, 3}, api.ErrState}, {6, []int64{2, 3, 2}, api.ErrState}, {6, []int64{6, 6}, api.ErrState},
		{6, []int64{0}, api.ErrState}, {6, []int64{6, 0}, api.ErrState}, {6, []int64{0, 6}, api.ErrState}, {6, []int64{3, 0, 3}, api.ErrState},
		{6, []int64{7, -1}, api.ErrState}, {6, []int64{-1, 7}, api.ErrState}, {6, []int64{6, 1, -1}, api.ErrState}, {6, []int64{-6}, api.ErrState},
		{65, ones(65), api.ErrState}, {64, append(ones(64), 0), api.ErrState}, {64, ones(65), api.ErrState}, {1000, ones(1000), api.ErrState}, {64, ones(63), api.ErrState},
		{6, []int64{most, most, 8}, api.ErrState}, // their sum is 6, if it wraps
		{6, []int64{1 << 62, 1 << 62, 1 << 62, 1 << 62, 6}, api.ErrState},
		{6, []int64{math.MinInt64, math.MinInt64, 6}, api.ErrState}, {6, []int64{6, math.MinInt64, math.MinInt64}, api.ErrState},
		{6, []int64{1<<32 + 6}, api.ErrState}, {1 << 30, []int64{1<<30 + 1}, api.ErrState},
	} {
		is(t, fmt.Sprint("C, Chunks ", c.c, c.l), tasks.Right(api.Task{ID: 1, C: c.c, D: 1 << 30, T: 1 << 30, Prio: 1, Chunks: c.l}, 4), c.want)
	}
}

// P5.1: used sets, how many there may be, and which numbers, beside any number of sets.
func TestRightUse(t *testing.T) {
	for _, c := range []struct {
		sets int
		l    []int
		want api.Errno
	}{
		{4, nil, api.OK}, {4, []int{}, api.OK}, {4, []int{0}, api.OK}, {4, []int{3}, api.OK}, {4, []int{3, 0, 2, 1}, api.OK}, {4, []int{1, 1, 1}, api.OK},
		{1, []int{0, 0}, api.OK}, {256, []int{255, 0}, api.OK}, {4, slices.Repeat([]int{2}, 64), api.OK}, {4, slices.Repeat([]int{2}, 63), api.OK},
		{4, []int{4}, api.ErrNone}, {4, []int{0, 4}, api.ErrNone}, {4, []int{4, 0}, api.ErrNone}, {4, []int{5}, api.ErrNone}, {4, []int{-1}, api.ErrNone}, {4, []int{0, -1, 0}, api.ErrNone},
		{4, []int{math.MaxInt}, api.ErrNone}, {4, []int{math.MinInt}, api.ErrNone}, {4, []int{256}, api.ErrNone}, {256, []int{256}, api.ErrNone}, {4, []int{1 << 32}, api.ErrNone},
		{4, slices.Repeat([]int{2}, 65), api.ErrNone}, {4, slices.Repeat([]int{2}, 1000), api.ErrNone}, {256, slices.Repeat([]int{2}, 65), api.ErrNone},
		{0, nil, api.OK}, {0, []int{0}, api.ErrNone}, {-1, nil, api.OK}, {-1, []int{0}, api.ErrNone}, {-4, []int{-5}, api.ErrNone}, {-4, []int{-4}, api.ErrNone},
		{math.MinInt, []int{0}, api.ErrNone}, {math.MinInt, []int{math.MaxInt}, api.ErrNone}, {math.MinInt, nil, api.OK},
		{1000, []int{999}, api.OK}, {1000, []int{1000}, api.ErrNone}, {math.MaxInt, []int{math.MaxInt - 1}, api.OK}, {math.MaxInt, []int{math.MaxInt}, api.ErrNone},
	} {
		is(t, fmt.Sprint("sets, Use ", c.sets, c.l), tasks.Right(with(func(t *api.Task) { t.Use = c.l }), c.sets), c.want)
	}
}

// P5.1: of several errors that apply, the one that is named first is told: all sets of wrong parts.
func TestRightErrorsInOrder(t *testing.T) {
	for wrong := range 64 {
		one := plain()
		want := api.OK
		for _, part := range []struct {
			bit   int
			err   api.Errno
			spoil func()
		}{
			{16, api.ErrNone, func() { one.Use[2] = 4 }},
			{8, api.ErrState, func() { one.Chunks[2] = 2 }},
			{4, api.ErrForm, func() { one.T = 7 }},
			{32, api.ErrForm, func() { one.C = 0 }},
			{2, api.ErrArg, func() { one.Prio = 0 }},
			{1, api.ErrArg, func() { one.ID = 100 }},
		} {
			if wrong&part.bit != 0 {
				part.spoil()
				want = part.err
			}
		}
		is(t, fmt.Sprintf("Right, with the wrong parts %b", wrong), tasks.Right(one, 4), want)
		is(t, fmt.Sprintf("Check, with the wrong parts %b", wrong), tasks.Check(system(one)), want)
	}
}

// P5.1: sets, reloads, and how many tasks there may be.
func TestCheckEdges(t *testing.T) {
	for n, want := range map[int]api.Errno{
		math.MinInt: api.ErrArg, -1: api.ErrArg, 0: api.OK, 1: api.OK, 255: api.OK, 256: api.OK, 257: api.ErrArg, 1 << 32: api.ErrArg, math.MaxInt: api.ErrArg,
	} {
		is(t, fmt.Sprint("Sets ", n), tasks.Check(api.System{Sets: n, Tasks: many(2)}), want)
	}
	for n, want := range map[int64]api.Errno{
		math.MinInt64: api.ErrArg, -1: api.ErrArg, 0: api.OK, 1: api.OK, 999: api.OK, 1000: api.OK, 1001: api.ErrArg, 1 << 32: api.ErrArg, most: api.ErrArg,
	} {
		is(t, fmt.Sprint("Reload ", n), tasks.Check(api.System{Reload: n, Tasks: many(2)}), want)
	}
	for n, want := range map[int]api.Errno{0: api.ErrArg, 1: api.OK, 2: api.OK, 63: api.OK, 64: api.OK, 65: api.ErrFull, 66: api.ErrFull, 99: api.ErrFull, 100: api.ErrFull, 5000: api.ErrFull} {
		is(t, fmt.Sprint("tasks ", n), tasks.Check(system(many(n)...)), want)
	}
	is(t, "no system", tasks.Check(api.System{}), api.ErrArg)
	is(t, "an empty row of tasks", tasks.Check(api.System{Tasks: []api.Task{}}), api.ErrArg)
}

// P5.1: what is wrong with the system is told ahead of what is wrong with its tasks, and of those the first one's.
func TestCheckErrorsInOrder(t *testing.T) {
	wrongID, wrongC, wrongChunks, wrongUse := small(0, 1), small(2, 2), small(3, 3), small(4, 4)
	wrongC.C, wrongChunks.Chunks, wrongUse.Use = 0, []int64{2}, []int{4}
	for _, c := range []struct {
		what string
		s    api.System
		want api.Errno
	}{
		{"too many, and wrong sets", api.System{Sets: 257, Tasks: many(65)}, api.ErrArg},
		{"too many, and a wrong reload", api.System{Reload: -1, Tasks: many(65)}, api.ErrArg},
		{"too many, all of them wrong", system(make([]api.Task, 65)...), api.ErrFull},
		{"wrong sets, and a wrong task", api.System{Sets: -1, Tasks: []api.Task{wrongC}}, api.ErrArg},
		{"the first one", system(wrongC, wrongID, wrongUse), api.ErrForm},
		{"the second one", system(small(1, 1), wrongUse, wrongID), api.ErrNone},
		{"the last one", system(small(1, 1), small(2, 2), wrongChunks), api.ErrState},
		{"a set beyond", system(small(1, 1), small(2, 2), small(3, 3), wrongUse), api.ErrNone},
		{"a set beyond, of a cache that has it", api.System{Sets: 5, Tasks: []api.Task{small(1, 1), wrongUse}}, api.OK},
		{"a set, of no cache", api.System{Tasks: []api.Task{with(func(t *api.Task) {})}}, api.ErrNone},
		{"the same ID", system(small(1, 1), small(1, 2)), api.ErrForm},
		{"a lesser ID", system(small(2, 1), small(1, 2)), api.ErrForm},
		{"a lesser ID, later", system(small(1, 1), small(5, 2), small(4, 3)), api.ErrForm},
		{"an ID below the first one's", system(small(3, 1), small(5, 2), small(1, 3)), api.ErrForm},
		{"IDs that skip some", system(small(1, 3), small(50, 2), small(99, 1)), api.OK},
		{"the same Prio", system(small(1, 1), small(2, 1)), api.ErrThere},
		{"the same Prio, further ahead", system(small(1, 9), small(2, 5), small(3, 7), small(4, 9)), api.ErrThere},
		{"the same Prio, and the same ID", system(small(1, 1), small(1, 1)), api.ErrForm},
		{"a wrong task of the same Prio and ID", system(small(2, 2), wrongC), api.ErrForm},
		{"wrong chunks, and a lesser ID", system(small(4, 1), wrongChunks), api.ErrState},
		{"wrong chunks, and the same Prio", system(small(1, 3), wrongChunks), api.ErrState},
		{"the same Prio, ahead of a lesser ID", system(small(2, 1), small(3, 1), small(1, 2)), api.ErrThere},
		{"a lesser ID, ahead of the same Prio", system(small(3, 1), small(1, 2), small(4, 1)), api.ErrForm},
		{"the same Prio, ahead of a wrong task", system(small(2, 1), small(3, 1), wrongID), api.ErrThere},
		{"a wrong task, ahead of the same Prio", system(small(1, 1), wrongC, small(3, 1)), api.ErrForm},
	} {
		is(t, c.what, tasks.Check(c.s), c.want)
	}
}

// wrong tells what Right and Check must tell of the task i of s, gone by the words of the chapter, with sums that have no end.
func wrong(s api.System, i int) api.Errno {
	one, sum := s.Tasks[i], new(big.Int)
	badChunk := len(one.Chunks) > 64
	for _, c := range one.Chunks {
		badChunk = badChunk || c < 1
		sum.Add(sum, big.NewInt(c))
	}
	badChunk = badChunk || len(one.Chunks) > 0 && sum.Cmp(big.NewInt(one.C)) != 0
	badUse := len(one.Use) > 64
	for _, u := range one.Use {
		badUse = badUse || u < 0 || !(u < s.Sets)
	}
	before := s.Tasks[:i]
	switch {
	case one.ID < 1 || one.ID > 99 || one.Prio < 1 || one.Prio > 99:
		return api.ErrArg
	case !(1 <= one.C && one.C <= one.D && one.D <= one.T && one.T <= 1<<30):
		return api.ErrForm
	case badChunk:
		return api.ErrState
	case badUse:
		return api.ErrNone
	case i > 0 && !(one.ID > before[i-1].ID):
		return api.ErrForm
	case slices.ContainsFunc(before, func(t api.Task) bool { return t.Prio == one.Prio }):
		return api.ErrThere
	}
	return api.OK
}

// drawnSystem is a system of a few tasks, that is right, if fewer than one in so many of its parts was spoiled.
func drawnSystem(draw func(n int) int, spoil int) api.System {
	s := api.System{Sets: draw(6), Reload: int64(draw(4))}
	prio := draw(90)
	for i := range draw(5) + 1 {
		one := api.Task{ID: 2*i + 1 + draw(2), Prio: 1 + (prio+7*i)%97}
		one.C = int64(1 + draw(9))
		one.D = one.C + int64(draw(3))
		one.T = one.D + int64(draw(3))
		for left := one.C; left > 0 && draw(8) > 0; left -= one.Chunks[len(one.Chunks)-1] {
			one.Chunks = append(one.Chunks, min(left, int64(1+draw(3))))
		}
		if len(one.Chunks) > 0 {
			one.Chunks[0] += one.C - tasks.Ends(one)[len(one.Chunks)-1]
		}
		for range draw(5) {
			if s.Sets > 0 {
				one.Use = append(one.Use, draw(s.Sets))
			}
		}
		if draw(spoil) == 0 {
			spoiled(&one, draw)
		}
		s.Tasks = append(s.Tasks, one)
	}
	return s
}

// spoiled changes one part of a task.
func spoiled(one *api.Task, draw func(n int) int) {
	n := draw(14) - 3
	switch draw(9) {
	case 0:
		one.ID = n
	case 1:
		one.Prio = n
	case 2:
		one.C = int64(n)
	case 3:
		one.D = int64(n)
	case 4:
		one.T = int64(n)
	case 5:
		one.Chunks = append(one.Chunks, int64(n))
	case 6:
		one.Use = append(one.Use, n)
	case 7:
		one.Chunks = append(one.Chunks, most, most, int64(n))
	case 8:
		one.Prio -= 7 * (1 + draw(2)) // that of a task ahead
	}
}

// P5.1: drawn systems, right ones and wrong ones, held against the words of the chapter.
func TestDrawnSystems(t *testing.T) {
	draw := drawer()
	met := map[api.Errno]int{}
	for range 20000 {
		s := drawnSystem(draw, 6)
		want := api.OK
		for i, one := range s.Tasks {
			if e := wrong(s, i); want == api.OK {
				want = e
			}
			alone := api.System{Sets: s.Sets, Tasks: []api.Task{one}}
			is(t, fmt.Sprintf("Right of %+v for %d", one, s.Sets), tasks.Right(one, s.Sets), wrong(alone, 0))
		}
		is(t, fmt.Sprintf("Check of %+v", s), tasks.Check(s), want)
		met[want]++
		if t.Failed() {
			return
		}
	}
	for _, e := range []api.Errno{api.OK, api.ErrArg, api.ErrForm, api.ErrState, api.ErrNone, api.ErrThere} {
		if met[e] < 100 {
			t.Errorf("of the drawn systems only %d tell %d", met[e], e)
		}
	}
}

// P5.1: a task is the same as itself, and as none of which one part is another one.
func TestSameTask(t *testing.T) {
	l := []api.Task{
		plain(), {},
		with(func(t *api.Task) { t.ID++ }), with(func(t *api.Task) { t.C++ }), with(func(t *api.Task) { t.D++ }), with(func(t *api.Task) { t.T++ }), with(func(t *api.Task) { t.Prio++ }),
		with(func(t *api.Task) { t.C += 1 << 32 }), with(func(t *api.Task) { t.ID = -t.ID }), with(func(t *api.Task) { t.C, t.D = t.D, t.C }), with(func(t *api.Task) { t.ID, t.Prio = t.Prio, t.ID }),
		with(func(t *api.Task) { t.Chunks = nil }), with(func(t *api.Task) { t.Chunks = []int64{2, 3} }), with(func(t *api.Task) { t.Chunks = []int64{2, 3, 1, 0} }),
		with(func(t *api.Task) { t.Chunks = []int64{3, 2, 1} }), with(func(t *api.Task) { t.Chunks = []int64{2, 3, 2} }),
		with(func(t *api.Task) { t.Use = nil }), with(func(t *api.Task) { t.Use = []int{0, 3} }), with(func(t *api.Task) { t.Use = []int{0, 3, 3, 0} }),
		with(func(t *api.Task) { t.Use = []int{3, 0, 3} }), with(func(t *api.Task) { t.Use = []int{0, 3, 2} }), with(func(t *api.Task) { t.Use = []int{0, 3, -3} }),
	}
	for i, a := range l {
		for j, b := range l {
			b = copied(system(b)).Tasks[0]
			is(t, fmt.Sprintf("SameTask of %+v and %+v", a, b), tasks.SameTask(a, b), i == j)
			is(t, fmt.Sprintf("Same of %+v and %+v", a, b), tasks.Same(system(a), system(b)), i == j)
			is(t, fmt.Sprintf("Same of a task, and %+v and %+v", a, b), tasks.Same(system(plain(), a), system(plain(), b)), i == j)
		}
	}
}

// P5.1: systems, of any kind, right or not.
func TestSame(t *testing.T) {
	one, other := plain(), small(4, 1)
	l := []api.System{
		{}, {Sets: 4}, {Reload: 4}, {Sets: -4, Reload: math.MinInt64}, system(), system(one), system(other), system(one, other), system(other, one),
		system(one, one), system(one, other, one), {Sets: 3, Reload: 2, Tasks: []api.Task{one}}, {Sets: 4, Reload: 1, Tasks: []api.Task{one}},
		{Sets: 2, Reload: 4, Tasks: []api.Task{one}}, system(make([]api.Task, 100)...), system(make([]api.Task, 101)...),
	}
	for i, a := range l {
		for j, b := range l {
			is(t, fmt.Sprintf("Same of %+v and %+v", a, b), tasks.Same(a, copied(b)), i == j)
		}
	}
}

// R1: nil is an empty list.
func TestNilIsEmpty(t *testing.T) {
	none, empty := small(1, 1), small(1, 1)
	empty.Chunks, empty.Use = []int64{}, []int{}
	is(t, "SameTask", fmt.Sprint(tasks.SameTask(none, empty), tasks.SameTask(empty, none)), "true true")
	is(t, "Same", fmt.Sprint(tasks.Same(system(none), system(empty)), tasks.Same(api.System{}, api.System{Tasks: []api.Task{}})), "true true")
	is(t, "Right", fmt.Sprint(int(tasks.Right(none, 0)), int(tasks.Right(empty, 0))), "0 0")
	is(t, "Ends, Chunk", fmt.Sprint(tasks.Ends(empty), tasks.Chunk(empty)), "[1] 1")
	set, uses := tasks.Access(empty, 0)
	is(t, "Access", fmt.Sprint(set, uses), "0 false")
}

// P5.2: the first task of an ID, whatever system it is of.
func TestFind(t *testing.T) {
	second := with(func(t *api.Task) { t.Prio = 1 })
	odd := api.Task{ID: math.MinInt, C: -1}
	s := system(small(7, 7), plain(), second, odd, api.Task{Prio: 9})
	for _, c := range []struct {
		id   int
		want api.Task
		some bool
	}{
		{7, small(7, 7), true}, {3, plain(), true}, {math.MinInt, odd, true}, {0, api.Task{Prio: 9}, true},
		{1, api.Task{}, false}, {-7, api.Task{}, false}, {5, api.Task{}, false}, {7 + 256, api.Task{}, false}, {math.MaxInt, api.Task{}, false},
	} {
		got, some := tasks.Find(s, c.id)
		is(t, fmt.Sprint("Find ", c.id), fmt.Sprintf("%+v %v", got, some), fmt.Sprintf("%+v %v", c.want, c.some))
	}
	for _, id := range []int{-1, 0, 1} {
		got, some := tasks.Find(api.System{}, id)
		is(t, "Find in no system", fmt.Sprintf("%+v %v", got, some), fmt.Sprintf("%+v %v", api.Task{}, false))
	}
}

// P5.2: the higher ones first, those of one Prio in their order; and those that are higher than one.
func TestByPrio(t *testing.T) {
	for _, c := range []struct {
		prios  []int // of the tasks 1, 2, and so on
		byPrio []int
		higher [][]int // than the tasks 1, 2, and so on
	}{
		{[]int{5}, []int{1}, [][]int{nil}},
		{[]int{1, 2, 3}, []int{1, 2, 3}, [][]int{nil, {1}, {1, 2}}},
		{[]int{3, 2, 1}, []int{3, 2, 1}, [][]int{{3, 2}, {3}, nil}},
		{[]int{7, 2}, []int{2, 1}, [][]int{{2}, nil}},
		{[]int{99, 1, 50, 2, 98}, []int{2, 4, 3, 5, 1}, [][]int{{2, 4, 3, 5}, nil, {2, 4}, {2}, {2, 4, 3}}},
		{[]int{4, 4, 4}, []int{1, 2, 3}, [][]int{nil, nil, nil}},
		{[]int{4, 3, 4, 3, 4}, []int{2, 4, 1, 3, 5}, [][]int{{2, 4}, nil, {2, 4}, nil, {2, 4}}},
		{[]int{0, math.MaxInt, math.MinInt, -1}, []int{3, 4, 1, 2}, [][]int{{3, 4}, {3, 4, 1}, nil, {3}}},
	} {
		var s api.System
		for i, p := range c.prios {
			s.Tasks = append(s.Tasks, with(func(t *api.Task) { t.ID, t.Prio, t.C = i+1, p, int64(i) }))
		}
		is(t, fmt.Sprint("ByPrio ", c.prios), ids(tasks.ByPrio(s)), c.byPrio)
		for _, one := range tasks.ByPrio(s) {
			is(t, "a task of ByPrio, whole", one, s.Tasks[one.ID-1])
		}
		for i, want := range c.higher {
			got := tasks.Higher(s, i+1)
			is(t, fmt.Sprint("Higher ", c.prios, " than ", i+1), ids(got), want)
			for _, one := range got {
				is(t, "a task of Higher, whole", one, s.Tasks[one.ID-1])
			}
		}
		for _, id := range []int{math.MinInt, -1, 0, len(c.prios) + 1, 99, math.MaxInt} {
			is(t, fmt.Sprint("Higher than no task ", id), len(tasks.Higher(s, id)), 0)
		}
	}
	is(t, "ByPrio and Higher of no system", len(tasks.ByPrio(api.System{}))+len(tasks.Higher(api.System{}, 0)), 0)
}

// P5.2: of two tasks of one ID the first one is it, than which others are higher.
func TestHigherThanTheFirst(t *testing.T) {
	is(t, "than the lower one", ids(tasks.Higher(system(small(1, 5), small(2, 3), small(1, 2)), 1)), []int{1, 2})
	is(t, "than the higher one", ids(tasks.Higher(system(small(1, 2), small(2, 3), small(3, 1), small(1, 5)), 1)), []int{3})
}

// P5.2: many tasks, of which several have one Prio, held against a row sorted by Prio and place.
func TestDrawnOrders(t *testing.T) {
	draw := drawer()
	for range 300 {
		var s api.System
		for i := range draw(120) {
			s.Tasks = append(s.Tasks, small(i, draw(30)))
		}
		var byPrio []int
		for prio := range 30 {
			for _, one := range s.Tasks {
				if one.Prio == prio {
					byPrio = append(byPrio, one.ID)
				}
			}
		}
		is(t, "ByPrio", ids(tasks.ByPrio(s)), byPrio)
		for _, one := range s.Tasks {
			higher := slices.DeleteFunc(slices.Clone(byPrio), func(id int) bool { return s.Tasks[id].Prio >= one.Prio })
			is(t, fmt.Sprint("Higher than ", one.ID), ids(tasks.Higher(s, one.ID)), higher)
		}
	}
}

// P5.3: how far work is at the end of each chunk, and the greatest one.
func TestChunks(t *testing.T) {
	for _, c := range []struct {
		c    int64
		l    []int64
		ends []int64
		most int64
	}{
		{6, nil, []int64{6}, 6}, {1, nil, []int64{1}, 1}, {1 << 30, nil, []int64{1 << 30}, 1 << 30}, {6, []int64{}, []int64{6}, 6},
		{6, []int64{6}, []int64{6}, 6}, {1, []int64{1}, []int64{1}, 1}, {5, []int64{2, 3}, []int64{2, 5}, 3}, {5, []int64{3, 2}, []int64{3, 5}, 3},
		{6, []int64{1, 4, 1}, []int64{1, 5, 6}, 4}, {6, []int64{2, 2, 2}, []int64{2, 4, 6}, 2}, {7, []int64{1, 2, 4}, []int64{1, 3, 7}, 4}, {7, []int64{4, 2, 1}, []int64{4, 6, 7}, 4},
		{1 << 30, []int64{1, 1<<30 - 1}, []int64{1, 1 << 30}, 1<<30 - 1}, {1 << 30, []int64{1<<30 - 1, 1}, []int64{1<<30 - 1, 1 << 30}, 1<<30 - 1},
	} {
		one := api.Task{ID: 1, C: c.c, D: 1 << 30, T: 1 << 30, Prio: 1, Chunks: c.l}
		is(t, fmt.Sprint("Ends of ", c.c, c.l), tasks.Ends(one), c.ends)
		is(t, fmt.Sprint("Chunk of ", c.c, c.l), tasks.Chunk(one), c.most)
	}
	var rising []int64
	for i := range int64(64) {
		rising = append(rising, i+1)
	}
	one := api.Task{ID: 1, C: 64, D: 64, T: 64, Prio: 1, Chunks: ones(64)}
	is(t, "Ends of 64 chunks", tasks.Ends(one), rising)
	is(t, "Chunk of 64 chunks", tasks.Chunk(one), 1)
}

// P5.3: which set a tick of work uses, over and over.
func TestAccess(t *testing.T) {
	used := with(func(t *api.Task) { t.Use = []int{2, 0, 3} })
	for _, c := range []struct {
		use  []int
		k    int64
		want string
	}{
		{used.Use, 0, "2 true"}, {used.Use, 1, "0 true"}, {used.Use, 2, "3 true"}, {used.Use, 3, "2 true"}, {used.Use, 4, "0 true"}, {used.Use, 5, "3 true"}, {used.Use, 6, "2 true"},
		{used.Use, 1 << 30, "0 true"}, {used.Use, 1<<32 + 1, "3 true"}, {used.Use, most, "0 true"}, {used.Use, most - 1, "2 true"},
		{used.Use, -1, "0 false"}, {used.Use, -2, "0 false"}, {used.Use, -3, "0 false"}, {used.Use, -1 << 32, "0 false"}, {used.Use, math.MinInt64, "0 false"},
		{[]int{3}, 0, "3 true"}, {[]int{3}, 1, "3 true"}, {[]int{3}, most, "3 true"}, {[]int{3}, -1, "0 false"}, {[]int{0}, 7, "0 true"}, {[]int{0}, -7, "0 false"},
		{nil, 0, "0 false"}, {nil, 1, "0 false"}, {nil, -1, "0 false"}, {nil, most, "0 false"}, {[]int{}, 0, "0 false"}, {[]int{}, math.MinInt64, "0 false"},
	} {
		set, uses := tasks.Access(with(func(t *api.Task) { t.Use = c.use }), c.k)
		is(t, fmt.Sprint("Access ", c.use, c.k), fmt.Sprint(set, uses), c.want)
	}
	long := with(func(t *api.Task) { t.Use = nil })
	for i := range 64 {
		long.Use = append(long.Use, 255-i)
	}
	for k := range int64(200) {
		set, uses := tasks.Access(long, k)
		is(t, fmt.Sprint("Access of 64, ", k), fmt.Sprint(set, uses), fmt.Sprint(255-k%64, true))
	}
}

// P5.4: of systems that are right, a task's last end is C, and no other one is of its Prio.
func TestWhatFollows(t *testing.T) {
	draw := drawer()
	right := 0
	for range 5000 {
		s := drawnSystem(draw, 30)
		if tasks.Check(s) != api.OK {
			continue
		}
		right++
		met := map[int]int{}
		for _, one := range s.Tasks {
			ends := tasks.Ends(one)
			is(t, "the last end", ends[len(ends)-1], one.C)
			is(t, "how many ends", len(ends), max(1, len(one.Chunks)))
			if !slices.IsSorted(ends) || tasks.Chunk(one) > one.C || !slices.Contains(append([]int64{one.C}, one.Chunks...), tasks.Chunk(one)) {
				t.Errorf("Ends %v, Chunk %d of %+v", ends, tasks.Chunk(one), one)
			}
			met[one.Prio]++
			is(t, fmt.Sprint("how many have the Prio ", one.Prio), met[one.Prio], 1)
		}
		for i, one := range tasks.ByPrio(s) {
			is(t, "how many are higher", len(tasks.Higher(s, one.ID)), i)
		}
	}
	if right < 1000 {
		t.Errorf("only %d drawn systems are right", right)
	}
}

// P1: all calls end, and none panics, of tasks that are wrong in any way.
func TestWrongTasksEnd(t *testing.T) {
	numbers := []int64{math.MinInt64, -1, 0, 1, 1 << 30, most}
	lists := [][]int64{nil, {}, {0}, {-1}, {most, most, most}, {math.MinInt64, math.MinInt64}, make([]int64, 100), ones(5000)}
	uses := [][]int{nil, {}, {-1}, {math.MaxInt, math.MinInt}, make([]int, 5000)}
	for _, n := range numbers {
		for _, chunks := range lists {
			for _, use := range uses {
				one := api.Task{ID: int(n), C: n, D: -n, T: n, Prio: int(n), Chunks: chunks, Use: use}
				s := api.System{Sets: int(n), Reload: n, Tasks: []api.Task{one, one, {}}}
				tasks.Right(one, int(n))
				tasks.Check(s)
				tasks.Ends(one)
				tasks.Chunk(one)
				tasks.Access(one, n)
				is(t, "Same", fmt.Sprint(tasks.Same(s, s), tasks.SameTask(one, one)), "true true")
				got, some := tasks.Find(s, int(n))
				is(t, "Find", fmt.Sprint(tasks.SameTask(got, one), some), "true true")
				is(t, "ByPrio", len(tasks.ByPrio(s)), 3)
				tasks.Higher(s, 0)
			}
		}
	}
}

// R5: a system may have many tasks, and a task long lists.
func TestLongLists(t *testing.T) {
	const n = 1 << 18
	one := api.Task{ID: 1, C: n, D: n, T: n, Prio: 1, Chunks: ones(n), Use: make([]int, n)}
	is(t, "Right", tasks.Right(one, 4), api.ErrState)
	is(t, "Ends", len(tasks.Ends(one)), n)
	one.Chunks = nil
	is(t, "Right", tasks.Right(one, 4), api.ErrNone)
	s := system(many(n)...)
	is(t, "Check", tasks.Check(s), api.ErrFull)
	is(t, "Same", tasks.Same(s, copied(s)), true)
	is(t, "ByPrio", ids(tasks.ByPrio(s))[0], n)
	is(t, "Higher", len(tasks.Higher(s, 2)), n-2)
	last, some := tasks.Find(s, n)
	is(t, "Find", fmt.Sprint(last.Prio, some), "1 true")
}

// askAll makes every call of s, and tells what all of them told.
func askAll(s api.System) []any {
	l := []any{tasks.Check(s), tasks.Same(s, s), tasks.ByPrio(s)}
	for _, one := range s.Tasks {
		found, some := tasks.Find(s, one.ID)
		set, uses := tasks.Access(one, 5)
		l = append(l, found, some, set, uses, tasks.Higher(s, one.ID), tasks.Ends(one), tasks.Chunk(one), tasks.Right(one, s.Sets), tasks.SameTask(one, one))
	}
	return l
}

// R3 and R4: what is handed in stays as it is, and the same calls have the same answers.
func TestSystemsStay(t *testing.T) {
	draw := drawer()
	for range 500 {
		s := drawnSystem(draw, 6)
		kept := copied(s)
		first := askAll(s)
		if !reflect.DeepEqual(s, kept) {
			t.Fatalf("a system was changed: %+v, was %+v", s, kept)
		}
		if again := askAll(s); !reflect.DeepEqual(again, first) {
			t.Fatalf("of %+v, again: %v, want %v", s, again, first)
		}
	}
}

// R3: what is told is the caller's: what it changes there, nobody else has.
func TestToldAreTheCallers(t *testing.T) {
	list := []int64{2, 3, 1, 9, 9}
	use := []int{0, 3, 3, 9, 9}
	s := system(with(func(t *api.Task) { t.Chunks, t.Use = list[:3], use[:3] }), with(func(t *api.Task) { t.ID, t.Prio, t.Chunks, t.Use = 4, 1, list[:3], use[:3] }))
	kept := copied(s)
	found, _ := tasks.Find(s, 3)
	spoil(found)
	for _, l := range [][]api.Task{tasks.ByPrio(s), tasks.Higher(s, 3)} {
		spoil(l[0])
		if len(l) > 1 {
			is(t, "another task of the same answer", l[1], s.Tasks[0])
		}
		l[0] = api.Task{}
		_ = append(l[:0], api.Task{}, api.Task{})
	}
	for _, one := range s.Tasks {
		one.Chunks = one.Chunks[:1]
		ends := tasks.Ends(one)
		ends[0] = 77
		_ = append(ends, 77)
	}
	alone := small(1, 1)
	tasks.Ends(alone)[0] = 77
	if !reflect.DeepEqual(s, kept) || !slices.Equal(list, []int64{2, 3, 1, 9, 9}) || !slices.Equal(use, []int{0, 3, 3, 9, 9}) {
		t.Errorf("a system was changed by what was told: %+v, %v, %v, was %+v", s, list, use, kept)
	}
}

// spoil changes all that a task's lists hold, and what lies behind them.
func spoil(t api.Task) {
	for i := range t.Chunks {
		t.Chunks[i] = 77
	}
	for i := range t.Use {
		t.Use[i] = 77
	}
	_, _ = append(t.Chunks, 77), append(t.Use, 77)
}
