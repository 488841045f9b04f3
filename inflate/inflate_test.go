package inflate_test

import (
	"fmt"
	"math"
	"math/big"
	"slices"
	"testing"

	"ostinato/api"
	"ostinato/cache"
	"ostinato/charge"
	"ostinato/inflate"
	"ostinato/tasks"
)

// The most work, and the most that may be asked about.
const (
	mostC     = 1 << 40
	mostTicks = 1 << 30
)

// is holds what was told against what ought to be.
func is(t *testing.T, what string, got, want any) {
	t.Helper()
	if g, w := fmt.Sprintf("%+v", got), fmt.Sprintf("%+v", want); g != w {
		t.Fatalf("%.300s: %.300s, want %.300s", what, g, w)
	}
}

// drawer tells numbers that look drawn, and are the same each time.
func drawer() func(n int64) int64 {
	x := uint64(88172645463325252)
	return func(n int64) int64 {
		x ^= x << 13
		x ^= x >> 7
		x ^= x << 17
		return int64(x % uint64(n))
	}
}

// oneOf draws one of l.
func oneOf[E any](next func(n int64) int64, l ...E) E { return l[next(int64(len(l)))] }

// row is what a call told of each task, and its error.
type row[E any] struct {
	L []E
	E api.Errno
}

func told[E any](l []E, e api.Errno) row[E] { return row[E]{l, e} }

// dems are demands that are told without an error.
func dems(l ...api.Dem) row[api.Dem] { return row[api.Dem]{l, api.OK} }

// three are the parts of a demand, in order: C, D, T.
type three [3]int64

// by are demands of these parts, that are told without an error.
func by(l ...three) row[api.Dem] {
	var all []api.Dem
	for _, d := range l {
		all = append(all, api.Dem{C: d[0], D: d[1], T: d[2]})
	}
	return dems(all...)
}

// parts are told without an error.
func parts(l ...int64) row[int64] { return row[int64]{l, api.OK} }

// fails holds that a call told that error, and nothing else.
func fails[E any](t *testing.T, what string, got row[E], want api.Errno) {
	t.Helper()
	is(t, what+": error", int(got.E), int(want))
	is(t, what+": how many", len(got.L), 0)
}

// span is what Region tells.
type span struct {
	Work, Times int64
	OK          bool
}

func region(c, gamma, q int64) span {
	work, times, ok := inflate.Region(c, gamma, q)
	return span{work, times, ok}
}

var none = span{}

// many tells n sets, each another one, from first on.
func many(first, n int) []int {
	var l []int
	for i := range n {
		l = append(l, first+i)
	}
	return l
}

// alike are n tasks of the same work and the same sets; the later ones are the higher ones.
func alike(n int, c int64, use ...int) []api.Task {
	var l []api.Task
	for i := range n {
		l = append(l, api.Task{ID: i + 1, C: c, D: c, T: c, Prio: n - i, Use: use})
	}
	return l
}

// copied tells s with lists of its own.
func copied(s api.System) api.System {
	s.Tasks = slices.Clone(s.Tasks)
	for i, k := range s.Tasks {
		s.Tasks[i].Chunks, s.Tasks[i].Use = slices.Clone(k.Chunks), slices.Clone(k.Use)
	}
	return s
}

// prios tells each task's own priority, in order.
func prios(s api.System) []int {
	var l []int
	for _, k := range s.Tasks {
		l = append(l, k.Prio)
	}
	return l
}

// five are tasks whose charges are 4, 6, 2, 0, 0, in order.
func five() api.System {
	return api.System{Sets: 16, Reload: 2, Tasks: []api.Task{
		{ID: 2, C: 20, D: 40, T: 50, Prio: 5, Use: []int{0, 1}, Chunks: []int64{9, 1, 10}},
		{ID: 4, C: 20, D: 60, T: 60, Prio: 9, Use: []int{0, 1, 2, 3}, Chunks: []int64{20}},
		{ID: 6, C: 20, D: 50, T: 70, Prio: 3, Use: []int{2}, Chunks: []int64{5, 15}},
		{ID: 8, C: 1, D: 40, T: 41, Prio: 7, Use: []int{0}},
		{ID: 9, C: 20, D: 70, T: 90, Prio: 1, Use: []int{9, 10}, Chunks: slices.Repeat([]int64{1}, 20)},
	}}
}

// small is the system of three tasks, whose charges are 4, 0, 0.
func small() api.System {
	return api.System{Sets: 8, Reload: 2, Tasks: []api.Task{
		{ID: 1, C: 6, D: 20, T: 20, Prio: 3, Use: []int{0, 1, 2}, Chunks: []int64{2, 3, 1}},
		{ID: 2, C: 2, D: 10, T: 10, Prio: 2, Use: []int{2, 3}},
		{ID: 3, C: 1, D: 5, T: 5, Prio: 1, Use: []int{0}},
	}}
}

// drawnSystem is a right one: of few or many tasks, with sets that they share or not, and chunks or none.
func drawnSystem(next func(n int64) int64) api.System {
	s := api.System{Sets: oneOf(next, 0, 1, 4, 12, 70, 256), Reload: oneOf[int64](next, 0, 1, 3, 1000)}
	var taken []int
	for range 1 + next(oneOf[int64](next, 1, 4, 9)) {
		k := api.Task{ID: 1 + int(next(9)), C: 1 + next(30), Prio: 1 + int(next(99))}
		if len(s.Tasks) > 0 {
			k.ID += s.Tasks[len(s.Tasks)-1].ID
		}
		for slices.Contains(taken, k.Prio) {
			k.Prio = k.Prio%99 + 1
		}
		taken = append(taken, k.Prio)
		// Few deadlines, so that some are the same.
		k.D = max(k.C, 10*next(5))
		k.T = k.D + next(9)
		for left := k.C; left > 0 && (len(k.Chunks) > 0 || next(2) == 0); left -= k.Chunks[len(k.Chunks)-1] {
			k.Chunks = append(k.Chunks, 1+next(left))
		}
		for range next(oneOf[int64](next, 1, 6, 25, 65)) {
			if s.Sets > 0 {
				k.Use = append(k.Use, int(next(int64(s.Sets))))
			}
		}
		s.Tasks = append(s.Tasks, k)
	}
	return s
}

// drawnThetas are thresholds of s that may be.
func drawnThetas(next func(n int64) int64, s api.System) []int {
	var l []int
	for _, k := range s.Tasks {
		some := slices.DeleteFunc(prios(s), func(p int) bool { return p > k.Prio })
		l = append(l, oneOf(next, some...))
	}
	return l
}

// chargeOf tells the charge of the task i of s.
func chargeOf(t *testing.T, s api.System, i int) int64 {
	t.Helper()
	of, ok := charge.Of(s, s.Tasks[i].ID)
	is(t, fmt.Sprintf("a charge of %d of %+v", i, s), ok, true)
	return of
}

// modelEdf takes each task's words one by one.
func modelEdf(t *testing.T, s api.System) row[api.Dem] {
	var l []api.Dem
	for _, k := range s.Tasks {
		more := int64(0)
		for j, o := range s.Tasks {
			if o.D > k.D && chargeOf(t, s, j) > more {
				more = chargeOf(t, s, j)
			}
		}
		l = append(l, api.Dem{C: k.C + more, D: k.D, T: k.T})
	}
	return dems(l...)
}

func modelThetas(s api.System, theta []int) bool {
	if len(theta) != len(s.Tasks) {
		return false
	}
	for i, k := range s.Tasks {
		if !slices.Contains(prios(s), theta[i]) || theta[i] > k.Prio {
			return false
		}
	}
	return true
}

// modelLevel is that of the task n of s.
func modelLevel(t *testing.T, s api.System, theta []int, n int) row[api.Dem] {
	var l []api.Dem
	for i, k := range s.Tasks {
		if k.Prio > s.Tasks[n].Prio {
			continue
		}
		more := int64(0)
		for j := range s.Tasks {
			if j != i && theta[j] > k.Prio && theta[j] <= s.Tasks[n].Prio && chargeOf(t, s, j) > more {
				more = chargeOf(t, s, j)
			}
		}
		l = append(l, api.Dem{C: k.C + more, D: k.D, T: k.T})
	}
	return dems(l...)
}

func modelChunks(t *testing.T, s api.System) row[api.Dem] {
	var l []api.Dem
	for i, k := range s.Tasks {
		work := k.C
		for n := 1; n < len(k.Chunks); n++ {
			work += chargeOf(t, s, i)
		}
		l = append(l, api.Dem{C: work, D: k.D, T: k.T})
	}
	return dems(l...)
}

func modelParts(t *testing.T, s api.System) row[int64] {
	var l []int64
	for i, k := range s.Tasks {
		switch len(k.Chunks) {
		case 0, 1:
			l = append(l, k.C)
		default:
			l = append(l, slices.Max(k.Chunks)+chargeOf(t, s, i))
		}
	}
	return parts(l...)
}

// P14.1 and P14.2: by hand.
func TestByHand(t *testing.T) {
	for _, x := range []struct {
		what   string
		s      api.System
		edf    row[api.Dem]
		chunks row[api.Dem]
		parts  row[int64]
	}{
		{"three tasks", small(), by(three{6, 20, 20}, three{6, 10, 10}, three{5, 5, 5}), by(three{14, 20, 20}, three{2, 10, 10}, three{1, 5, 5}), parts(7, 2, 1)},
		{"five tasks, two of them of the same deadline", five(),
			by(three{26, 40, 50}, three{20, 60, 60}, three{26, 50, 70}, three{7, 40, 41}, three{20, 70, 90}),
			by(three{28, 40, 50}, three{20, 60, 60}, three{22, 50, 70}, three{1, 40, 41}, three{20, 70, 90}),
			parts(14, 20, 17, 1, 1)},
		{"a task alone", api.System{Sets: 4, Reload: 5, Tasks: []api.Task{{ID: 7, C: 8, D: 9, T: 10, Prio: 1, Use: []int{0, 1}, Chunks: []int64{3, 5}}}}, by(three{8, 9, 10}), by(three{8, 9, 10}), parts(5)},
		{"the same deadline", api.System{Sets: 4, Reload: 5, Tasks: alike(2, 8, 0, 1)}, by(three{8, 8, 8}, three{8, 8, 8}), by(three{8, 8, 8}, three{8, 8, 8}), parts(8, 8)},
		{"a deadline that is later by one, of a shorter period", api.System{Sets: 4, Reload: 5, Tasks: []api.Task{{ID: 1, C: 8, D: 8, T: 30, Prio: 2, Use: []int{0, 1}}, {ID: 2, C: 8, D: 9, T: 9, Prio: 1, Use: []int{0, 1}, Chunks: []int64{8}}}}, by(three{18, 8, 30}, three{8, 9, 9}), by(three{8, 8, 30}, three{8, 9, 9}), parts(8, 8)},
		{"no sets", api.System{Reload: 5, Tasks: []api.Task{{ID: 1, C: 3, D: 8, T: 9, Prio: 2}, {ID: 2, C: 4, D: 9, T: 9, Prio: 1, Chunks: []int64{1, 2, 1}}}}, by(three{3, 8, 9}, three{4, 9, 9}), by(three{3, 8, 9}, three{4, 9, 9}), parts(3, 2)},
	} {
		is(t, x.what+": right", tasks.Check(x.s), api.OK)
		is(t, x.what+": Edf", told(inflate.Edf(x.s)), x.edf)
		is(t, x.what+": Chunks", told(inflate.Chunks(x.s)), x.chunks)
		is(t, x.what+": Parts", told(inflate.Parts(x.s)), x.parts)
	}
}

// P14.1: levels by hand.
func TestLevel(t *testing.T) {
	for _, x := range []struct {
		what  string
		s     api.System
		theta []int
		id    int
		want  row[api.Dem]
	}{
		{"the lowest of three", small(), []int{2, 2, 1}, 1, by(three{6, 20, 20}, three{2, 10, 10}, three{5, 5, 5})},
		{"the middle of three", small(), []int{2, 2, 1}, 2, by(three{2, 10, 10}, three{5, 5, 5})},
		{"the highest of three", small(), []int{2, 2, 1}, 3, by(three{1, 5, 5})},
		{"own priorities, the lowest", small(), []int{3, 2, 1}, 1, by(three{6, 20, 20}, three{6, 10, 10}, three{5, 5, 5})},
		{"own priorities, the middle", small(), []int{3, 2, 1}, 2, by(three{2, 10, 10}, three{1, 5, 5})},
		{"nobody is displaced", small(), []int{1, 1, 1}, 1, by(three{6, 20, 20}, three{2, 10, 10}, three{1, 5, 5})},
		{"the lowest of five", five(), []int{5, 9, 3, 7, 1}, 4, by(three{26, 40, 50}, three{20, 60, 60}, three{26, 50, 70}, three{7, 40, 41}, three{26, 70, 90})},
		{"a middle one of five", five(), []int{5, 9, 3, 7, 1}, 2, by(three{20, 40, 50}, three{24, 50, 70}, three{24, 70, 90})},
		{"a threshold that is just a priority", five(), []int{3, 5, 3, 5, 1}, 2, by(three{20, 40, 50}, three{26, 50, 70}, three{26, 70, 90})},
		{"a threshold just above it", five(), []int{3, 7, 3, 5, 1}, 2, by(three{20, 40, 50}, three{20, 50, 70}, three{24, 70, 90})},
		{"the highest of five", five(), []int{5, 9, 3, 7, 1}, 9, by(three{20, 70, 90})},
	} {
		is(t, x.what+": may be", inflate.Thetas(x.s, x.theta), true)
		is(t, x.what, told(inflate.Level(x.s, x.theta, x.id)), x.want)
	}
}

// P14.1: thresholds by hand, and those that may not be, which Level refuses, of whatever task.
func TestThetas(t *testing.T) {
	for _, x := range []struct {
		what  string
		theta []int
		want  bool
	}{
		{"own ones", []int{5, 9, 3, 7, 1}, true},
		{"the highest", []int{1, 1, 1, 1, 1}, true},
		{"some", []int{5, 7, 1, 3, 1}, true},
		{"above its own, the first", []int{7, 9, 3, 7, 1}, false},
		{"above its own, in the middle", []int{5, 9, 5, 7, 1}, false},
		{"above its own, the last", []int{5, 9, 3, 7, 3}, false},
		{"nobody's, below its own", []int{4, 9, 3, 7, 1}, false},
		{"nobody's, below the middle's", []int{5, 9, 2, 7, 1}, false},
		{"nobody's, the last", []int{5, 9, 3, 7, 0}, false},
		{"nobody's, above all", []int{5, 10, 3, 7, 1}, false},
		{"below 0", []int{5, 9, -3, 7, 1}, false},
		{"far below 0", []int{5, 9, 3, math.MinInt, 1}, false},
		{"far above", []int{5, 9, 3, math.MaxInt, 1}, false},
		{"wrapped to 32 bits", []int{5, 9, 3 - 1<<32, 7, 1}, false},
		{"as IDs", []int{2, 4, 6, 8, 9}, false},
		{"none", nil, false},
		{"no numbers", []int{}, false},
		{"one too few", []int{5, 9, 3, 7}, false},
		{"one too many", []int{5, 9, 3, 7, 1, 1}, false},
		{"far too many", slices.Repeat([]int{1}, 1<<20), false},
	} {
		s := five()
		is(t, x.what, inflate.Thetas(s, x.theta), x.want)
		is(t, x.what+": as the words say", modelThetas(s, x.theta), x.want)
		for _, id := range []int{-1, 0, 1, 2, 4, 6, 8, 9, 10, 99, 100} {
			got, what := told(inflate.Level(s, x.theta, id)), fmt.Sprintf("%s: Level of %d", x.what, id)
			_, there := tasks.Find(s, id)
			switch {
			case !x.want:
				fails(t, what, got, api.ErrArg)
			case !there:
				fails(t, what, got, api.ErrNone)
			default:
				is(t, what, int(got.E), int(api.OK))
			}
		}
	}
}

// P14.1: of numbers that no task has, the farthest too, there is no level.
func TestNotThere(t *testing.T) {
	s := small()
	for _, id := range []int{math.MinInt, -3, -1, 0, 4, 64, 65, 99, 100, 1<<32 + 1, math.MaxInt} {
		fails(t, fmt.Sprintf("Level of %d", id), told(inflate.Level(s, prios(s), id)), api.ErrNone)
		fails(t, fmt.Sprintf("Level of %d, of wrong thresholds", id), told(inflate.Level(s, []int{3, 2, 2}, id)), api.ErrArg)
	}
}

// P14.1 and P14.2: drawn systems, held against the chapter's words.
func TestDrawn(t *testing.T) {
	next := drawer()
	var raised, kept int
	for range 600 {
		s := drawnSystem(next)
		theta := drawnThetas(next, s)
		what := fmt.Sprintf("thresholds %v of %+v", theta, s)
		is(t, what+": right", tasks.Check(s), api.OK)
		is(t, what, inflate.Thetas(s, theta), true)
		is(t, what+": own ones", inflate.Thetas(s, prios(s)), true)
		is(t, "Edf of "+what, told(inflate.Edf(s)), modelEdf(t, s))
		is(t, "Chunks of "+what, told(inflate.Chunks(s)), modelChunks(t, s))
		is(t, "Parts of "+what, told(inflate.Parts(s)), modelParts(t, s))
		for n, k := range s.Tasks {
			got := told(inflate.Level(s, theta, k.ID))
			is(t, fmt.Sprintf("Level of %d of %s", k.ID, what), got, modelLevel(t, s, theta, n))
			is(t, fmt.Sprintf("Level of %d of own priorities of %+v", k.ID, s), told(inflate.Level(s, prios(s), k.ID)), modelLevel(t, s, prios(s), n))
			for _, d := range got.L {
				if slices.ContainsFunc(s.Tasks, func(o api.Task) bool { return o.C == d.C && o.D == d.D }) {
					kept++
				} else {
					raised++
				}
			}
		}
	}
	if min(raised, kept) < 300 {
		t.Errorf("drawn too seldom: %d demands are raised, %d are not", raised, kept)
	}
}

// P14.1: drawn thresholds with one that is changed, held against the chapter's words.
func TestDrawnThetas(t *testing.T) {
	next := drawer()
	var right, wrong int
	for range 5000 {
		s := drawnSystem(next)
		theta := drawnThetas(next, s)
		theta[next(int64(len(theta)))] = oneOf(next, append(prios(s), int(next(102)))...)
		want := modelThetas(s, theta)
		is(t, fmt.Sprintf("thresholds %v of %+v", theta, s), inflate.Thetas(s, theta), want)
		got := told(inflate.Level(s, theta, s.Tasks[0].ID))
		is(t, fmt.Sprintf("Level of thresholds %v of %+v", theta, s), got.E == api.OK, want)
		if want {
			right++
		} else {
			wrong++
		}
	}
	if min(right, wrong) < 500 {
		t.Errorf("drawn too seldom: %d are right, %d wrong", right, wrong)
	}
}

// P14.1 and P14.2: as much work, and as many tasks, chunks and sets, as may be.
func TestGreatestSystems(t *testing.T) {
	s := api.System{Sets: 256, Reload: 1000, Tasks: alike(64, 1<<30, many(192, 64)...)}
	for i := range s.Tasks {
		s.Tasks[i].C, s.Tasks[i].D = 1<<30-64+int64(i), 1<<30-64+int64(i)
		s.Tasks[i].Chunks = append(slices.Repeat([]int64{1 << 24}, 63), s.Tasks[i].C-63<<24)
	}
	is(t, "right", tasks.Check(s), api.OK)
	edf, chunks, part := told(inflate.Edf(s)), told(inflate.Chunks(s)), told(inflate.Parts(s))
	level, free := told(inflate.Level(s, prios(s), 1)), told(inflate.Level(s, slices.Repeat([]int{1}, 64), 1))
	is(t, "how many", []int{len(edf.L), len(chunks.L), len(part.L), len(level.L), len(free.L)}, []int{64, 64, 64, 64, 64})
	for i, k := range s.Tasks {
		// The last one has the latest deadline, and the first one the lowest priority: nobody is left for them to displace.
		later, lower := int64(64000), int64(64000)
		if i == 63 {
			later = 0
		}
		if i == 0 {
			lower = 0
		}
		what := fmt.Sprintf("the task %d of 64", i+1)
		is(t, what+" by deadlines", edf.L[i], api.Dem{C: k.C + later, D: k.D, T: k.T})
		is(t, what+" by priority", level.L[i], api.Dem{C: k.C + lower, D: k.D, T: k.T})
		is(t, what+" by thresholds that let nobody displace", free.L[i], api.Dem{C: k.C, D: k.D, T: k.T})
		is(t, what+" by chunks", chunks.L[i], api.Dem{C: k.C + 63*64000, D: k.D, T: k.T})
		is(t, what+": its part", part.L[i], 1<<24+64000)
	}
}

// Words: of systems that are not right only ErrArg is told, whatever is wrong, ahead of any other error; each is right but for one thing.
func TestNotRight(t *testing.T) {
	for what, wrong := range map[string]func(s *api.System){
		"sets below 0":         func(s *api.System) { s.Sets = -1 },
		"sets above 256":       func(s *api.System) { s.Sets = 257 },
		"too few sets":         func(s *api.System) { s.Sets = 2 },
		"reload below 0":       func(s *api.System) { s.Reload = -1 },
		"reload above 1000":    func(s *api.System) { s.Reload = 1001 },
		"no tasks":             func(s *api.System) { s.Tasks = s.Tasks[:0] },
		"nil tasks":            func(s *api.System) { s.Tasks = nil },
		"65 tasks":             func(s *api.System) { s.Tasks = alike(65, 8, 0, 1) },
		"2^18 tasks":           func(s *api.System) { s.Tasks = alike(1<<18, 8, 0, 1) },
		"an ID of 0":           func(s *api.System) { s.Tasks[0].ID = 0 },
		"an ID of 100":         func(s *api.System) { s.Tasks[2].ID = 100 },
		"IDs that fall":        func(s *api.System) { s.Tasks[0].ID = 3 },
		"the same ID":          func(s *api.System) { s.Tasks[0].ID = 2 },
		"the same Prio":        func(s *api.System) { s.Tasks[0].Prio = s.Tasks[1].Prio },
		"a Prio of 0":          func(s *api.System) { s.Tasks[2].Prio = 0 },
		"C of 0":               func(s *api.System) { s.Tasks[1].C = 0 },
		"C above D":            func(s *api.System) { s.Tasks[1].C = 11 },
		"D above T":            func(s *api.System) { s.Tasks[1].D = 11 },
		"T above 2^30":         func(s *api.System) { s.Tasks[1].T = 1<<30 + 1 },
		"chunks that are less": func(s *api.System) { s.Tasks[0].Chunks = []int64{2, 3} },
		"a chunk of 0":         func(s *api.System) { s.Tasks[0].Chunks = []int64{6, 0} },
		"a set that is none":   func(s *api.System) { s.Tasks[1].Use[1] = 8 },
		"a set below 0":        func(s *api.System) { s.Tasks[1].Use[1] = -1 },
		"65 used sets":         func(s *api.System) { s.Tasks[1].Use = make([]int, 65) },
	} {
		s := copied(small())
		wrong(&s)
		is(t, what+": right", tasks.Check(s) == api.OK, false)
		fails(t, what+": Edf", told(inflate.Edf(s)), api.ErrArg)
		fails(t, what+": Chunks", told(inflate.Chunks(s)), api.ErrArg)
		fails(t, what+": Parts", told(inflate.Parts(s)), api.ErrArg)
		for _, theta := range [][]int{prios(s), {3, 2, 1}, {1, 1, 1}, {9}, {}, nil} {
			is(t, what+": Thetas", inflate.Thetas(s, theta), false)
			for _, id := range []int{-1, 0, 1, 2, 3, 4, 100} {
				fails(t, what+": Level", told(inflate.Level(s, theta, id)), api.ErrArg)
			}
		}
	}
	var s api.System
	fails(t, "Edf of nothing", told(inflate.Edf(s)), api.ErrArg)
	fails(t, "Level of nothing", told(inflate.Level(s, nil, 0)), api.ErrArg)
	is(t, "Thetas of nothing", inflate.Thetas(s, nil), false)
}

// P14.2: who is displaced behind each chunk, while others run, is done in the ticks that Chunks tells, and goes on between two ends no longer than Parts tells.
func TestChunksAreEnough(t *testing.T) {
	next := drawer()
	var paid int
	for range 6000 {
		s := drawnSystem(next)
		work, long := told(inflate.Chunks(s)), told(inflate.Parts(s))
		n := int(next(int64(len(s.Tasks))))
		k := s.Tasks[n]
		what := fmt.Sprintf("the task %d of %+v", k.ID, s)
		c, w, all := cache.New(s.Sets), api.Work{Demand: k.C}, int64(0)
		for _, end := range tasks.Ends(k) {
			ticks := int64(0)
			for ; w.Done < end; ticks++ {
				w, _ = c.Step(k, s.Reload, w)
			}
			is(t, what+" goes on for too long", ticks > long.L[n], false)
			all += ticks
			for _, o := range s.Tasks {
				other := api.Work{Demand: o.C}
				for o.ID != k.ID && other.Done < next(o.C+1) {
					other, _ = c.Step(o, s.Reload, other)
				}
			}
		}
		is(t, what+" takes too long", all > work.L[n].C, false)
		if all > k.C {
			paid++
		}
	}
	if paid < 200 {
		t.Errorf("only %d drawn jobs reloaded", paid)
	}
}

// walked tells the least work that is as P14.3 says, looked for one by one.
func walked(c, gamma, q, most int64) span {
	for work := c; work <= most; work++ {
		times := int64(0)
		for (times+1)*(q+1) < work {
			times++
		}
		if c+times*gamma == work {
			return span{work, times, true}
		}
	}
	return none
}

// runs lets a job go on that is displaced as soon as it may be, behind q ticks and one, till it is done.
func runs(c, gamma, q, most int64) span {
	so := span{OK: true}
	left, ran := c, int64(0)
	for ; left > 0; so.Work++ {
		if so.Work == most {
			return none
		}
		if ran == q+1 {
			ran = 0
			left += gamma
			so.Times++
		}
		left--
		ran++
	}
	return so
}

// reckoned tells the same in numbers without an end: so often as what c is above a region fits into what a region leaves beside gamma, rounded up.
func reckoned(c, gamma, q int64) span {
	if c <= q+1 {
		return span{c, 0, true}
	}
	if gamma >= q+1 {
		return none
	}
	times := big.NewInt(c - q - 1)
	times.Add(times, big.NewInt(q-gamma))
	times.Quo(times, big.NewInt(q+1-gamma))
	work := new(big.Int).Mul(times, big.NewInt(gamma))
	work.Add(work, big.NewInt(c))
	if work.Cmp(big.NewInt(mostC)) > 0 {
		return none
	}
	return span{work.Int64(), times.Int64(), true}
}

// P14.3: regions by hand.
func TestRegion(t *testing.T) {
	for _, x := range []struct {
		c, gamma, q int64
		want        span
	}{
		{10, 1, 3, span{12, 2, true}}, {10, 0, 3, span{10, 2, true}}, {10, 2, 3, span{16, 3, true}}, {10, 3, 3, span{28, 6, true}}, {10, 4, 3, none}, {10, 5, 3, none},
		{4, 9, 3, span{4, 0, true}}, {5, 9, 3, none}, {5, 3, 3, span{8, 1, true}}, {5, 1, 3, span{6, 1, true}}, {8, 1, 3, span{10, 2, true}}, {8, 0, 3, span{8, 1, true}}, {9, 0, 3, span{9, 2, true}},
		{1, 0, 0, span{1, 0, true}}, {1, 1, 0, span{1, 0, true}}, {1, mostTicks, 0, span{1, 0, true}}, {2, 0, 0, span{2, 1, true}}, {2, 1, 0, none}, {2, 1, 1, span{2, 0, true}}, {3, 1, 1, span{4, 1, true}}, {3, 2, 1, none}, {4, 1, 1, span{6, 2, true}},
		{100, 7, 98, span{107, 1, true}}, {100, 7, 99, span{100, 0, true}}, {100, 7, 1000, span{100, 0, true}}, {100, 98, 98, span{198, 1, true}}, {100, 99, 98, none},
	} {
		what := fmt.Sprintf("Region(%d, %d, %d)", x.c, x.gamma, x.q)
		is(t, what, region(x.c, x.gamma, x.q), x.want)
		is(t, what+": walked", walked(x.c, x.gamma, x.q, 300), x.want)
		is(t, what+": what runs", runs(x.c, x.gamma, x.q, 300), x.want)
		is(t, what+": reckoned", reckoned(x.c, x.gamma, x.q), x.want)
	}
}

// P14.3: both sides of each edge of what may be asked, and of what is told.
func TestRegionEdges(t *testing.T) {
	for _, x := range []struct {
		c, gamma, q int64
		want        span
	}{
		{0, 0, 0, none}, {0, 1, 3, none}, {-1, 0, 0, none}, {-10, 1, 3, none}, {math.MinInt64, 0, 0, none}, {math.MinInt64, math.MinInt64, math.MinInt64, none},
		{mostTicks, 0, 0, span{mostTicks, mostTicks - 1, true}}, {mostTicks + 1, 0, 0, none}, {mostTicks + 1, 0, mostTicks, none}, {mostC, 0, mostTicks, none}, {math.MaxInt64, 0, mostTicks, none}, {math.MaxInt64, math.MaxInt64, math.MaxInt64, none},
		{10, -1, 3, none}, {1, -1, 3, none}, {10, math.MinInt64, 3, none}, {1, mostTicks + 1, 3, none}, {1, math.MaxInt64, 3, none}, {4, mostTicks, 3, span{4, 0, true}}, {4, mostTicks + 1, 3, none},
		{10, 1, -1, none}, {1, 0, -1, none}, {10, 1, math.MinInt64, none}, {10, 1, mostTicks, span{10, 0, true}}, {10, 1, mostTicks + 1, none}, {10, 1, math.MaxInt64, none},
		{mostTicks, mostTicks, mostTicks, span{mostTicks, 0, true}}, {mostTicks, mostTicks, mostTicks - 1, span{mostTicks, 0, true}}, {mostTicks, mostTicks, mostTicks - 2, none}, {mostTicks, mostTicks - 2, mostTicks - 2, span{1<<31 - 2, 1, true}}, {mostTicks, mostTicks - 1, mostTicks - 2, none},
		{3145726, 1048574, 1048575, span{mostC, 1048575, true}}, {402612226, 8190, 8192, span{mostC, 134201345, true}}, {402612227, 8190, 8192, none}, {134217729, 16384, 16385, none}, {33619965, 65534, 65535, span{mostC - 1, 16777215, true}}, {33619966, 65534, 65535, span{mostC, 16777215, true}}, {33619967, 65534, 65535, none},
		{mostTicks, 1, 1, span{1<<31 - 2, mostTicks - 2, true}}, {mostTicks, 1022, 1022, span{1022*(mostTicks-1023) + mostTicks, mostTicks - 1023, true}}, {mostTicks, 1023, 1023, span{mostC - 1023*1024, mostTicks - 1024, true}}, {mostTicks, 1024, 1024, none}, {mostTicks, 1025, 1025, none},
		{mostTicks, 1, 0, none}, {mostTicks, mostTicks, 0, none}, {2, mostTicks, 0, none},
	} {
		is(t, fmt.Sprintf("Region(%d, %d, %d)", x.c, x.gamma, x.q), region(x.c, x.gamma, x.q), x.want)
	}
}

// P14.3: all short regions, held against a walk from work to work, and ticks in which a job runs.
func TestShortRegions(t *testing.T) {
	var all, never int
	for c := int64(1); c <= 24; c++ {
		for gamma := range int64(26) {
			for q := range int64(26) {
				// Where there is such work, there are at most c times, each of less than a region.
				most := c + c*(q+1)
				want, what := walked(c, gamma, q, most), fmt.Sprintf("Region(%d, %d, %d)", c, gamma, q)
				is(t, what, region(c, gamma, q), want)
				is(t, what+": what runs", runs(c, gamma, q, most), want)
				if want.OK {
					all++
				} else {
					never++
				}
			}
		}
	}
	if min(all, never) < 1000 {
		t.Errorf("too few: %d are told, %d not", all, never)
	}
}

// P14.3: drawn regions of all sizes, held against numbers without an end.
func TestDrawnRegions(t *testing.T) {
	next := drawer()
	var far, untold, never int
	for range 20000 {
		c, q := 1+next(mostTicks>>next(30)), next(mostTicks>>next(30))
		gamma := next(mostTicks >> next(30))
		if next(2) == 0 {
			gamma = max(q-next(9), 0)
		}
		want := reckoned(c, gamma, q)
		is(t, fmt.Sprintf("Region(%d, %d, %d)", c, gamma, q), region(c, gamma, q), want)
		switch {
		case want.OK && want.Times > 0 && want.Work > 2*c:
			far++
		case gamma > q && !want.OK:
			never++
		case !want.OK:
			untold++
		}
	}
	if min(far, untold, never) < 500 {
		t.Errorf("drawn too seldom: %d are far, %d too far, %d never", far, untold, never)
	}
}

// P14.3 and P1: what is raised for ever, or by little for long, ends soon.
func TestRegionEnds(t *testing.T) {
	for c := int64(2); c < 2000; c++ {
		is(t, fmt.Sprintf("Region(%d, 1, 0)", c), region(c, 1, 0), none)
		is(t, fmt.Sprintf("Region(%d, 2, 0)", c), region(c, 2, 0), none)
	}
	for _, x := range []struct {
		c, gamma, q int64
		want        span
	}{
		{2, 1, 0, none}, {3, 2, 1, none}, {mostTicks, 1, 0, none},
		// Raised by a region each time, that is as long as there may be many of.
		{1<<21 - 1, 1<<20 - 1, 1<<20 - 1, span{mostC, 1<<20 - 1, true}}, {1 << 21, 1<<20 - 1, 1<<20 - 1, none},
		{2362374, 636000, 636000, span{2362374 + (2362374-636001)*636000, 2362374 - 636001, true}}, {2364000, 636000, 636000, span{2364000 + (2364000-636001)*636000, 2364000 - 636001, true}}, {2365000, 636000, 636000, none},
	} {
		is(t, fmt.Sprintf("Region(%d, %d, %d)", x.c, x.gamma, x.q), region(x.c, x.gamma, x.q), x.want)
		is(t, fmt.Sprintf("Region(%d, %d, %d): reckoned", x.c, x.gamma, x.q), reckoned(x.c, x.gamma, x.q), x.want)
	}
}

// P14.4: without a reload work stays what it is.
func TestWithoutReload(t *testing.T) {
	next := drawer()
	for range 300 {
		s := drawnSystem(next)
		s.Reload = 0
		same := func(keep func(k api.Task) bool) row[api.Dem] {
			var l []api.Dem
			for _, k := range s.Tasks {
				if keep(k) {
					l = append(l, api.Dem{C: k.C, D: k.D, T: k.T})
				}
			}
			return dems(l...)
		}
		var greatest []int64
		for _, k := range s.Tasks {
			greatest = append(greatest, tasks.Chunk(k))
		}
		what := fmt.Sprintf("%+v", s)
		is(t, "Edf of "+what, told(inflate.Edf(s)), same(func(api.Task) bool { return true }))
		is(t, "Chunks of "+what, told(inflate.Chunks(s)), same(func(api.Task) bool { return true }))
		is(t, "Parts of "+what, told(inflate.Parts(s)), parts(greatest...))
		for _, k := range s.Tasks {
			got := told(inflate.Level(s, drawnThetas(next, s), k.ID))
			is(t, fmt.Sprintf("Level of %d of %s", k.ID, what), got, same(func(o api.Task) bool { return o.Prio <= k.Prio }))
		}
	}
	for range 5000 {
		c, q := 1+next(mostTicks>>next(30)), next(mostTicks>>next(30))
		is(t, fmt.Sprintf("Region(%d, 0, %d)", c, q), region(c, 0, q), span{c, (c - 1) / (q + 1), true})
	}
}

// R3 and R4: what is handed in stays as it is, behind it too, what is told is the caller's, and the same calls have the same answers.
func TestMemory(t *testing.T) {
	next := drawer()
	for range 100 {
		s := drawnSystem(next)
		theta := drawnThetas(next, s)
		kept, keptTheta := copied(s), slices.Clone(theta)
		id := s.Tasks[next(int64(len(s.Tasks)))].ID
		for range 2 {
			edf, chunks, part, level := told(inflate.Edf(s)), told(inflate.Chunks(s)), told(inflate.Parts(s)), told(inflate.Level(s, theta, id))
			is(t, "Edf", edf, modelEdf(t, kept))
			is(t, "Chunks", chunks, modelChunks(t, kept))
			is(t, "Parts", part, modelParts(t, kept))
			for _, l := range [][]api.Dem{edf.L, chunks.L, level.L} {
				for i := range l {
					l[i] = api.Dem{C: -1, D: -1, T: -1}
				}
			}
			for i := range part.L {
				part.L[i] = -1
			}
			is(t, "Thetas", inflate.Thetas(s, theta), true)
			is(t, "the system", fmt.Sprintf("%+v", s), fmt.Sprintf("%+v", kept))
			is(t, "the thresholds", theta, keptTheta)
		}
	}
	more := append(slices.Clone(small().Tasks), api.Task{ID: 99})
	s := small()
	s.Tasks = more[:3]
	inflate.Level(s, []int{3, 2, 1, 7}[:3], 3)
	is(t, "tasks, and what is behind them", more, append(slices.Clone(small().Tasks), api.Task{ID: 99}))
}
