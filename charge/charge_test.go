package charge_test

import (
	"fmt"
	"math"
	"reflect"
	"slices"
	"testing"

	"ostinato/api"
	"ostinato/blocks"
	"ostinato/cache"
	"ostinato/charge"
	"ostinato/tasks"
)

// is holds what was told against what ought to be.
func is(t *testing.T, what string, got, want any) {
	t.Helper()
	if g, w := fmt.Sprintf("%+v", got), fmt.Sprintf("%+v", want); g != w {
		t.Fatalf("%.300s: %.300s, want %.300s", what, g, w)
	}
}

// drawer tells numbers that look drawn, and are the same each time.
func drawer() func(n int) int {
	x := uint64(88172645463325252)
	return func(n int) int {
		x ^= x << 13
		x ^= x >> 7
		x ^= x << 17
		return int(x % uint64(n))
	}
}

// task is a right task, of that work and those sets.
func task(id int, c int64, use ...int) api.Task {
	return api.Task{ID: id, C: c, D: c, T: c, Prio: 100 - id, Use: use}
}

// many tells n sets, each another one, from first on.
func many(first, n int) []int {
	var l []int
	for i := range n {
		l = append(l, first+i)
	}
	return l
}

// alike are n tasks of the same work and the same sets.
func alike(n int, c int64, use ...int) []api.Task {
	var l []api.Task
	for i := range n {
		l = append(l, task(i+1, c, use...))
	}
	return l
}

// copied tells s with lists of its own.
func copied(s api.System) api.System {
	s.Tasks = slices.Clone(s.Tasks)
	for i, k := range s.Tasks {
		s.Tasks[i].Chunks, s.Tasks[i].Use = slices.Clone(k.Chunks), slices.Clone(k.Use)
	}
	return s
}

// five are the parts of a row's charge, in order: the task's ID, Useful, Used, Both, Of.
type five [5]int64

// listed tells the row of charges of these parts.
func listed(l ...five) []api.Charge {
	var row []api.Charge
	for _, c := range l {
		row = append(row, api.Charge{ID: int(c[0]), Useful: c[1], Used: c[2], Both: c[3], Of: c[4]})
	}
	return row
}

// single tells what the four calls of one task tell, and whether each of them told it.
func single(s api.System, id int) (api.Charge, [4]bool) {
	c := api.Charge{ID: id}
	var told [4]bool
	c.Useful, told[0] = charge.Useful(s, id)
	c.Used, told[1] = charge.Used(s, id)
	c.Both, told[2] = charge.Both(s, id)
	c.Of, told[3] = charge.Of(s, id)
	return c, told
}

// nothing holds that no call tells anything of that task.
func nothing(t *testing.T, what string, s api.System, id int) {
	t.Helper()
	c, told := single(s, id)
	is(t, fmt.Sprintf("%s: charges of %d", what, id), c, api.Charge{ID: id})
	is(t, fmt.Sprintf("%s: charges told of %d", what, id), told, [4]bool{})
}

// rows holds that the row, and each task's own calls, are those of want.
func rows(t *testing.T, what string, s api.System, want []api.Charge) {
	t.Helper()
	is(t, what+": a right system", tasks.Check(s), api.OK)
	is(t, what+": Row", charge.Row(s), want)
	for _, w := range want {
		c, told := single(s, w.ID)
		is(t, what+": charges of one", c, w)
		is(t, what+": charges told of one", told, [4]bool{true, true, true, true})
		is(t, what+": the greatest of one", charge.Greatest(s, []int{w.ID}), w.Of)
	}
}

// modelUsed tells in how many ticks of k, from one on below another one, each set is used: tick by tick.
func modelUsed(k api.Task, from, below int64) [256]int {
	var times [256]int
	for tick := from; tick < below && len(k.Use) > 0; tick++ {
		times[k.Use[tick%int64(len(k.Use))]]++
	}
	return times
}

// modelCharge tells the charges of the task i of s from the chapters' words: at all places, set by set.
func modelCharge(s api.System, i int) api.Charge {
	var others [256]bool
	for n, k := range s.Tasks {
		for set, times := range modelUsed(k, 0, k.C) {
			others[set] = others[set] || n != i && times > 0
		}
	}
	k := s.Tasks[i]
	var useful, used, both int64
	for _, in := range others {
		used += one(in)
	}
	for p := int64(1); p < k.C; p++ {
		ahead, behind := modelUsed(k, 0, p), modelUsed(k, p, k.C)
		var here, hereToo int64
		for set, other := range others {
			again := ahead[set] > 0 && behind[set] > 0
			here += one(again)
			hereToo += one(again && other)
		}
		useful, both = max(useful, here), max(both, hereToo)
	}
	c := api.Charge{ID: k.ID, Useful: s.Reload * useful, Used: s.Reload * used, Both: s.Reload * both}
	c.Of = min(c.Useful, c.Used, c.Both)
	return c
}

func one(yes bool) int64 {
	if yes {
		return 1
	}
	return 0
}

// drawnSystem is a right one: of few or many tasks, with few or many sets, that they share or not.
func drawnSystem(next func(n int) int) api.System {
	s := api.System{Sets: []int{0, 1, 4, 12, 70, 256}[next(6)], Reload: int64([]int{0, 1, 3, 1000}[next(4)])}
	var prios []int
	for range 1 + next([]int{1, 4, 9}[next(3)]) {
		k := api.Task{ID: 1 + next(9), C: int64(1 + next(30)), Prio: 1 + next(99)}
		if len(s.Tasks) > 0 {
			k.ID += s.Tasks[len(s.Tasks)-1].ID
		}
		for slices.Contains(prios, k.Prio) {
			k.Prio = k.Prio%99 + 1
		}
		prios = append(prios, k.Prio)
		k.D = k.C + int64(next(9))
		k.T = k.D + int64(next(9))
		if k.C > 1 && next(3) == 0 {
			k.Chunks = []int64{1, k.C - 1}
		}
		for range next([]int{1, 6, 25, 65}[next(4)]) {
			if s.Sets > 0 {
				k.Use = append(k.Use, next(s.Sets))
			}
		}
		s.Tasks = append(s.Tasks, k)
	}
	return s
}

// P10.1 and P10.2: the chapter's example, and others by hand.
func TestByHand(t *testing.T) {
	for _, x := range []struct {
		what   string
		sets   int
		reload int64
		tasks  []api.Task
		want   []five
	}{
		{"the example", 3, 3, []api.Task{task(1, 4, 0, 1, 0, 1), task(2, 2, 1, 2)}, []five{{1, 6, 6, 3, 3}, {2, 0, 6, 0, 0}}},
		{"three tasks", 8, 2, []api.Task{task(1, 6, 0, 1, 2), task(2, 2, 2, 3), task(3, 1, 0)}, []five{{1, 6, 6, 4, 4}, {2, 0, 6, 0, 0}, {3, 0, 8, 0, 0}}},
		{"a task alone", 4, 5, []api.Task{task(7, 8, 0, 1)}, []five{{7, 10, 0, 0, 0}}},
		{"no reload", 4, 0, []api.Task{task(1, 8, 0, 1), task(2, 8, 0, 1)}, []five{{1, 0, 0, 0, 0}, {2, 0, 0, 0, 0}}},
		{"the greatest reload", 2, 1000, []api.Task{task(1, 8, 0, 1), task(2, 8, 0, 1)}, []five{{1, 2000, 2000, 2000, 2000}, {2, 2000, 2000, 2000, 2000}}},
		{"no sets", 0, 7, []api.Task{task(1, 8), task(2, 8)}, []five{{1, 0, 0, 0, 0}, {2, 0, 0, 0, 0}}},
		{"sets that nobody uses", 256, 7, []api.Task{task(1, 8), task(2, 8)}, []five{{1, 0, 0, 0, 0}, {2, 0, 0, 0, 0}}},
		{"one of two uses sets", 9, 1, []api.Task{task(1, 8, 3, 4, 5), task(2, 8)}, []five{{1, 3, 0, 0, 0}, {2, 0, 3, 0, 0}}},
		{"sets that are not shared", 9, 1, []api.Task{task(1, 8, 3, 4, 5), task(2, 8, 6, 7)}, []five{{1, 3, 2, 0, 0}, {2, 2, 3, 0, 0}}},
		{"useful at several places", 9, 1, []api.Task{task(1, 8, 0, 0, 1, 1, 2, 2, 3, 3), task(2, 4, 0, 1, 2, 3)}, []five{{1, 1, 4, 1, 1}, {2, 0, 4, 0, 0}}},
		{"the most, and the most of the others'", 9, 1, []api.Task{task(1, 12, 0, 1, 2, 0, 1, 2, 3, 4, 4, 3, 3, 4), task(2, 2, 3, 4)}, []five{{1, 3, 2, 2, 2}, {2, 0, 5, 0, 0}}},
		{"less work than a round", 9, 1, []api.Task{task(1, 3, 0, 1, 0, 8, 8), task(2, 1, 0, 5, 6)}, []five{{1, 1, 1, 1, 1}, {2, 0, 2, 0, 0}}},
		{"what several others use", 9, 4, []api.Task{task(1, 9, 0, 1, 2), task(2, 9, 2, 3), task(3, 9, 3, 1)}, []five{{1, 12, 12, 8, 8}, {2, 8, 16, 8, 8}, {3, 8, 16, 8, 8}}},
		{"the least and the greatest set", 256, 2, []api.Task{task(98, 4, 0, 255), task(99, 4, 255, 64, 128, 0)}, []five{{98, 4, 8, 4, 4}, {99, 0, 4, 0, 0}}},
	} {
		s := api.System{Sets: x.sets, Reload: x.reload, Tasks: x.tasks}
		rows(t, x.what, s, listed(x.want...))
		nothing(t, x.what, s, 50)
	}
}

// P10.1 and P10.2: as many tasks, sets and ticks as may be.
func TestGreatestSystems(t *testing.T) {
	long := api.System{Sets: 256, Reload: 1000, Tasks: alike(64, 1<<30, many(192, 64)...)}
	var want []api.Charge
	for i := range 64 {
		want = append(want, api.Charge{ID: i + 1, Useful: 64000, Used: 64000, Both: 64000, Of: 64000})
	}
	rows(t, "64 alike", long, want)
	is(t, "the greatest of 64 alike", charge.Greatest(long, many(-50, 200)), 64000)
	apart := api.System{Sets: 256, Reload: 1000}
	want = nil
	for i := range 4 {
		apart.Tasks = append(apart.Tasks, task(20*i+1, 1<<30, many(64*i, 64)...))
		want = append(want, api.Charge{ID: 20*i + 1, Useful: 64000, Used: 192000})
	}
	rows(t, "four apart", apart, want)
	apart.Tasks = append(apart.Tasks, task(90, 64, many(32, 64)...))
	want = listed(five{1, 64000, 224000, 32000, 32000}, five{21, 64000, 224000, 32000, 32000}, five{41, 64000, 192000, 0, 0}, five{61, 64000, 192000, 0, 0}, five{90, 0, 256000, 0, 0})
	rows(t, "four apart, and one between", apart, want)
}

// P10.1 and P10.2: drawn systems, held against the chapters' words, with IDs that are there and that are not.
func TestDrawn(t *testing.T) {
	next := drawer()
	costly := 0
	for range 400 {
		s := drawnSystem(next)
		var want []api.Charge
		for i := range s.Tasks {
			want = append(want, modelCharge(s, i))
			costly += int(one(want[i].Of > 0 && want[i].Of < want[i].Useful))
		}
		what := fmt.Sprintf("%+v", s)
		rows(t, what, s, want)
		for id := -1; id <= 101; id++ {
			if !slices.ContainsFunc(want, func(c api.Charge) bool { return c.ID == id }) {
				nothing(t, what, s, id)
				is(t, what+": the greatest of nobody", charge.Greatest(s, []int{id}), 0)
			}
		}
		var ids []int
		for range next(12) {
			ids = append(ids, next(60)-3)
		}
		is(t, fmt.Sprintf("Greatest(%+v, %v)", s, ids), charge.Greatest(s, ids), modelGreatest(want, ids))
	}
	if costly < 50 {
		t.Errorf("of only %d drawn tasks others take a part of what is useful", costly)
	}
}

func modelGreatest(row []api.Charge, ids []int) int64 {
	greatest := int64(0)
	for _, id := range ids {
		for _, c := range row {
			if c.ID == id && c.Of > greatest {
				greatest = c.Of
			}
		}
	}
	return greatest
}

// P10.1: of numbers that no task has, the farthest too, nothing is told.
func TestNotThere(t *testing.T) {
	s := api.System{Sets: 4, Reload: 3, Tasks: []api.Task{task(3, 8, 0, 1), task(5, 8, 1, 2)}}
	for _, id := range []int{math.MinInt, -5, -3, -1, 0, 1, 2, 4, 6, 99, 100, 1<<32 + 3, math.MaxInt} {
		nothing(t, "not there", s, id)
		is(t, "not there: the greatest", charge.Greatest(s, []int{id, id}), 0)
	}
}

// P10.2: the greatest, by hand.
func TestGreatest(t *testing.T) {
	s := api.System{Sets: 16, Reload: 2, Tasks: []api.Task{task(2, 20, 0, 1), task(4, 20, 0, 1, 2, 3), task(6, 20, 2), task(8, 1, 0), task(9, 20, 9, 10)}}
	rows(t, "five tasks", s, listed(five{2, 4, 12, 4, 4}, five{4, 8, 10, 6, 6}, five{6, 2, 12, 2, 2}, five{8, 0, 12, 0, 0}, five{9, 4, 8, 0, 0}))
	for _, x := range []struct {
		what string
		ids  []int
		want int64
	}{
		{"nil", nil, 0},
		{"empty", []int{}, 0},
		{"all", []int{2, 4, 6, 8, 9}, 6},
		{"all, falling", []int{9, 8, 6, 4, 2}, 6},
		{"the greatest alone", []int{4}, 6},
		{"without the greatest", []int{6, 2, 8}, 4},
		{"the last ones", []int{6, 8, 9}, 2},
		{"those that cost nothing", []int{9, 8}, 0},
		{"several times", []int{6, 6, 2, 6}, 4},
		{"not there", []int{1, 3, 5, -2, 100}, 0},
		{"some not there", []int{1, 6, 3, -4, 104}, 2},
	} {
		is(t, x.what, charge.Greatest(s, x.ids), x.want)
	}
}

// Words: of systems that are not right nothing is told; each is right but for one thing.
func TestNotRight(t *testing.T) {
	right := api.System{Sets: 4, Reload: 3, Tasks: []api.Task{task(1, 8, 0, 1), task(2, 8, 1, 2)}}
	rows(t, "the right one", right, listed(five{1, 6, 6, 3, 3}, five{2, 6, 6, 3, 3}))
	for what, wrong := range map[string]func(s *api.System){
		"sets below 0":         func(s *api.System) { s.Sets = -1 },
		"sets above 256":       func(s *api.System) { s.Sets = 257 },
		"too few sets":         func(s *api.System) { s.Sets = 2 },
		"reload below 0":       func(s *api.System) { s.Reload = -1 },
		"reload above 1000":    func(s *api.System) { s.Reload = 1001 },
		"the greatest reload":  func(s *api.System) { s.Reload = math.MaxInt64 },
		"no tasks":             func(s *api.System) { s.Tasks = s.Tasks[:0] },
		"nil tasks":            func(s *api.System) { s.Tasks = nil },
		"65 tasks":             func(s *api.System) { s.Tasks = alike(65, 8, 0, 1) },
		"an ID of 0":           func(s *api.System) { s.Tasks[0].ID = 0 },
		"an ID of 100":         func(s *api.System) { s.Tasks[1].ID = 100 },
		"IDs that fall":        func(s *api.System) { s.Tasks[0].ID = 3 },
		"the same ID":          func(s *api.System) { s.Tasks[0].ID = 2 },
		"the same Prio":        func(s *api.System) { s.Tasks[0].Prio = s.Tasks[1].Prio },
		"a Prio of 0":          func(s *api.System) { s.Tasks[1].Prio = 0 },
		"C of 0":               func(s *api.System) { s.Tasks[1].C = 0 },
		"C above D":            func(s *api.System) { s.Tasks[1].C = 9 },
		"D above T":            func(s *api.System) { s.Tasks[1].D = 9 },
		"T above 2^30":         func(s *api.System) { s.Tasks[1].T = 1<<30 + 1 },
		"chunks that are less": func(s *api.System) { s.Tasks[1].Chunks = []int64{7} },
		"a set below 0":        func(s *api.System) { s.Tasks[1].Use[1] = -1 },
		"a set that is none":   func(s *api.System) { s.Tasks[1].Use[1] = 4 },
		"65 used sets":         func(s *api.System) { s.Tasks[1].Use = make([]int, 65) },
		"2^20 used sets":       func(s *api.System) { s.Tasks[1].Use = make([]int, 1<<20) },
	} {
		s := copied(right)
		wrong(&s)
		is(t, what+": right", tasks.Check(s) == api.OK, false)
		is(t, what+": Row", len(charge.Row(s)), 0)
		is(t, what+": Greatest", charge.Greatest(s, many(-2, 105)), 0)
		for _, id := range []int{-1, 0, 1, 2, 3, 65, 100} {
			nothing(t, what, s, id)
		}
	}
	nothing(t, "nothing at all", api.System{}, 0)
	is(t, "Row of nothing at all", len(charge.Row(api.System{})), 0)
	is(t, "Greatest of nothing at all", charge.Greatest(api.System{}, []int{0}), 0)
}

// P10.3: both is the least.
func TestBothIsLeast(t *testing.T) {
	next := drawer()
	for range 1000 {
		s := drawnSystem(next)
		for _, c := range charge.Row(s) {
			what := fmt.Sprintf("%+v of %+v", c, s)
			is(t, what+": least", c.Of, min(c.Useful, c.Used, c.Both))
			is(t, what+": both", c.Of, c.Both)
		}
	}
}

// machine runs jobs on a cache, a tick at a time.
type machine struct {
	s api.System
	c *cache.Cache
}

// runs lets a job of k go on for so many ticks, or till it is done.
func (m machine) runs(k api.Task, w api.Work, ticks int) api.Work {
	for range ticks {
		w, _ = m.c.Step(k, m.s.Reload, w)
	}
	return w
}

// others lets a new job of each task but k, if it is drawn, run for some ticks.
func (m machine) others(k api.Task, ticks func(o api.Task) int) {
	for _, o := range m.s.Tasks {
		if o.ID != k.ID {
			m.runs(o, api.Work{Demand: o.C}, ticks(o))
		}
	}
}

// P10.3: a job that was preempted n times reloads n times Of ticks at most, wherever that was, in a reload too, and whatever the others did.
func TestPreempted(t *testing.T) {
	next := drawer()
	paid, all := 0, 0
	for range 20000 {
		s := drawnSystem(next)
		m := machine{s, cache.New(s.Sets)}
		k := s.Tasks[next(len(s.Tasks))]
		of, _ := charge.Of(s, k.ID)
		w, n := api.Work{Demand: 1 + int64(next(int(k.C)))}, int64(0)
		for w = m.runs(k, w, 1+next(20)); w.Done < w.Demand && n < 20; w = m.runs(k, w, 1+next(20)) {
			m.others(k, func(o api.Task) int { return next(int(o.C) + 1) })
			n++
		}
		for w.Done < w.Demand {
			w = m.runs(k, w, 1)
		}
		if w.Reloads > n*of {
			t.Fatalf("task %d of %+v was preempted %d times, and reloaded %d ticks: Of is %d", k.ID, s, n, w.Reloads, of)
		}
		paid += int(one(w.Reloads > 0))
		all += int(one(w.Reloads > 0 && w.Reloads == n*of))
	}
	if paid < 500 || all < 50 {
		t.Errorf("only %d drawn jobs reloaded, and only %d as much as they might", paid, all)
	}
}

// P10.3: no lesser charge would do: who is preempted where the most is useful, by all others, reloads Of ticks.
func TestChargeIsPaid(t *testing.T) {
	next := drawer()
	paid := 0
	for range 1000 {
		s := drawnSystem(next)
		for _, k := range s.Tasks {
			of, _ := charge.Of(s, k.ID)
			_, p := blocks.Most(k, blocks.All(s.Tasks, k.ID))
			m := machine{s, cache.New(s.Sets)}
			w := m.runs(k, api.Work{Demand: k.C}, int(p))
			m.others(k, func(o api.Task) int { return int(o.C) })
			w = m.runs(k, w, int(k.C+of))
			is(t, fmt.Sprintf("task %d of %+v: reloaded, done", k.ID, s), []int64{w.Reloads, w.Done}, []int64{of, k.C})
			paid += int(one(of > 0))
		}
	}
	if paid < 300 {
		t.Errorf("only %d drawn tasks have a charge", paid)
	}
}

// R5: a row of IDs may be long.
func TestLongIDs(t *testing.T) {
	s := api.System{Sets: 256, Reload: 10, Tasks: alike(64, 100, many(0, 64)...)}
	s.Tasks[40].C, s.Tasks[41].Use = 1, nil
	ids := make([]int, 1<<20)
	for i := range ids {
		ids[i] = 41 + i%2
	}
	is(t, "of two, over and over", charge.Greatest(s, ids), 0)
	for i := range ids {
		ids[i] = i % 64
	}
	is(t, "of all, over and over", charge.Greatest(s, ids), 360)
	is(t, "of IDs from far below on", charge.Greatest(s, many(-1<<19, 1<<20)), 360)
}

// R5: a system may have many tasks, of which nothing is told.
func TestLongSystems(t *testing.T) {
	s := api.System{Sets: 4, Reload: 3, Tasks: alike(1<<18, 8, 0, 1)}
	nothing(t, "many tasks", s, 1)
	is(t, "Row", len(charge.Row(s)), 0)
	is(t, "Greatest", charge.Greatest(s, []int{1, 2}), 0)
}

// R3 and R4: what is handed in stays as it is, what is told is the caller's, and the same calls have the same answers.
func TestMemory(t *testing.T) {
	next := drawer()
	for range 200 {
		s := drawnSystem(next)
		kept := copied(s)
		ids := many(1, 60)
		row := charge.Row(s)
		want := slices.Clone(row)
		greatest := charge.Greatest(s, ids)
		for i, k := range s.Tasks {
			c, _ := single(s, k.ID)
			is(t, "charges of one", c, want[i])
			row[i] = api.Charge{ID: -1, Useful: -1, Used: -1, Both: -1, Of: -1}
		}
		_ = append(row, api.Charge{})
		is(t, "Row, again", charge.Row(s), want)
		is(t, "Greatest, again", charge.Greatest(s, ids), greatest)
		if !reflect.DeepEqual(s, kept) || !slices.Equal(ids, many(1, 60)) {
			t.Fatalf("what was handed in was changed: %+v, was %+v", s, kept)
		}
	}
}

// P10.1: a charge counts sets, whatever their numbers: each of the 256 may be useful.
func TestEverySet(t *testing.T) {
	for set := range 256 {
		s := api.System{Sets: 256, Reload: 9, Tasks: []api.Task{task(1, 2, set), task(2, 1, set), task(3, 2, 255-set)}}
		rows(t, fmt.Sprintf("set %d", set), s, listed(five{1, 9, 18, 9, 9}, five{2, 0, 18, 0, 0}, five{3, 9, 9, 0, 0}))
	}
}
