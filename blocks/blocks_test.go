package blocks_test

import (
	"fmt"
	"math"
	"slices"
	"testing"

	"ostinato/api"
	"ostinato/bits"
	"ostinato/blocks"
)

// is holds what was told against what ought to be; lists without elements are all the same.
func is(t *testing.T, what string, got, want any) {
	t.Helper()
	if g, w := fmt.Sprintf("%+v", got), fmt.Sprintf("%+v", want); g != w {
		t.Fatalf("%.300s: %.300s, want %.300s", what, g, w)
	}
}

// listed reads the numbers of a set from its words alone.
func listed(a api.Bits) []int {
	var l []int
	for i := range 256 {
		if a[i/64]>>(i%64)&1 == 1 {
			l = append(l, i)
		}
	}
	return l
}

// drawer tells numbers that look drawn, and are the same each time.
func drawer() func(n int) int {
	x := uint64(88172645463325252)
	return func(n int) int {
		x ^= x << 13
		x ^= x >> 7
		x ^= x << 17
		return int(x % uint64(n))
	}
}

// of tells what is told at one place: the sets used, those ahead, those behind, and the useful ones.
func of(k api.Task, p int64) [4][]int {
	return [4][]int{listed(blocks.Used(k)), listed(blocks.Before(k, p)), listed(blocks.Behind(k, p)), listed(blocks.Useful(k, p))}
}

// modelTold tells whether the chapter tells anything of k.
func modelTold(k api.Task) bool {
	return k.C >= 1 && k.C <= 1<<30 && len(k.Use) <= 64
}

// walked tells the sets of those ticks of k, of all of them, that are asked for: tick by tick.
func walked(k api.Task, asked func(tick int64) bool) []int {
	var met [256]int
	if modelTold(k) && len(k.Use) > 0 {
		for tick := range k.C {
			if set := k.Use[tick%int64(len(k.Use))]; asked(tick) && set >= 0 && set <= 255 {
				met[set]++
			}
		}
	}
	var l []int
	for set, times := range met {
		if times > 0 {
			l = append(l, set)
		}
	}
	return l
}

// both tells what is in a and in b.
func both(a, b []int) []int {
	var l []int
	for _, set := range a {
		if slices.Contains(b, set) {
			l = append(l, set)
		}
	}
	return l
}

// modelOf is of, from the chapter's words.
func modelOf(k api.Task, p int64) [4][]int {
	ahead := walked(k, func(tick int64) bool { return tick < p })
	behind := walked(k, func(tick int64) bool { return tick >= p })
	return [4][]int{walked(k, func(int64) bool { return true }), ahead, behind, both(ahead, behind)}
}

// modelMost goes through all places.
func modelMost(k api.Task, others []int) (int, int64) {
	most, at := 0, int64(0)
	if modelTold(k) {
		for p := int64(1); p < k.C; p++ {
			if n := len(both(modelOf(k, p)[3], others)); n > most {
				most, at = n, p
			}
		}
	}
	return most, at
}

// P9.1: the chapter's example, and others by hand.
func TestByHand(t *testing.T) {
	row := api.Task{ID: 1, C: 4, Use: []int{1, 2, 1, 3}}
	for _, x := range []struct {
		what string
		k    api.Task
		p    int64
		want [4][]int
	}{
		{"the example", row, 2, [4][]int{{1, 2, 3}, {1, 2}, {1, 3}, {1}}},
		{"a tick earlier", row, 1, [4][]int{{1, 2, 3}, {1}, {1, 2, 3}, {1}}},
		{"a tick later", row, 3, [4][]int{{1, 2, 3}, {1, 2}, {3}, {}}},
		{"at the beginning", row, 0, [4][]int{{1, 2, 3}, {}, {1, 2, 3}, {}}},
		{"at the end", row, 4, [4][]int{{1, 2, 3}, {1, 2, 3}, {}, {}}},
		{"beyond the end", row, 5, [4][]int{{1, 2, 3}, {1, 2, 3}, {}, {}}},
		{"below the beginning", row, -1, [4][]int{{1, 2, 3}, {}, {1, 2, 3}, {}}},
		{"far beyond", row, math.MaxInt64, [4][]int{{1, 2, 3}, {1, 2, 3}, {}, {}}},
		{"far below", row, math.MinInt64, [4][]int{{1, 2, 3}, {}, {1, 2, 3}, {}}},
		{"over and over", api.Task{C: 5, Use: []int{7, 9}}, 3, [4][]int{{7, 9}, {7, 9}, {7, 9}, {7, 9}}},
		{"the last of a round", api.Task{C: 5, Use: []int{7, 9}}, 4, [4][]int{{7, 9}, {7, 9}, {7}, {7}}},
		{"less than a round", api.Task{C: 2, Use: []int{4, 5, 4}}, 1, [4][]int{{4, 5}, {4}, {5}, {}}},
		{"one tick", api.Task{C: 1, Use: []int{4, 5}}, 0, [4][]int{{4}, {}, {4}, {}}},
		{"no sets", api.Task{C: 9}, 4, [4][]int{}},
		{"no sets of 2^30 ticks", api.Task{C: 1 << 30}, 1 << 29, [4][]int{}},
		{"the least and the greatest set", api.Task{C: 4, Use: []int{0, 255}}, 2, [4][]int{{0, 255}, {0, 255}, {0, 255}, {0, 255}}},
		{"sets that are none", api.Task{C: 10, Use: []int{-1, 3, 256, math.MaxInt, math.MinInt}}, 5, [4][]int{{3}, {3}, {3}, {3}}},
		{"none but those", api.Task{C: 9, Use: []int{-1, 256}}, 5, [4][]int{}},
		{"an ID that is none", api.Task{ID: -7, C: 3, Use: []int{1}}, 1, [4][]int{{1}, {1}, {1}, {1}}},
		{"wrong in all else", api.Task{ID: 100, C: 3, D: 1, T: -1, Prio: -3, Chunks: []int64{9}, Use: []int{1}}, 2, [4][]int{{1}, {1}, {1}, {1}}},
	} {
		is(t, x.what, of(x.k, x.p), x.want)
	}
}

// many tells n sets, each another one, from first on.
func many(first, n int) []int {
	var l []int
	for i := range n {
		l = append(l, first+i)
	}
	return l
}

// Words: of which tasks something is told, at both sides of each edge.
func TestOfWhom(t *testing.T) {
	for _, x := range []struct {
		what string
		k    api.Task
		told bool
	}{
		{"C of 0", api.Task{C: 0, Use: []int{1}}, false},
		{"C of 1", api.Task{C: 1, Use: []int{1}}, true},
		{"C below 0", api.Task{C: -1, Use: []int{1}}, false},
		{"the least C", api.Task{C: math.MinInt64, Use: []int{1}}, false},
		{"C of 2^30", api.Task{C: 1 << 30, Use: []int{1}}, true},
		{"C above 2^30", api.Task{C: 1<<30 + 1, Use: []int{1}}, false},
		{"the greatest C", api.Task{C: math.MaxInt64, Use: []int{1}}, false},
		{"64 sets", api.Task{C: 200, Use: many(1, 64)}, true},
		{"65 sets", api.Task{C: 200, Use: many(1, 65)}, false},
		{"256 sets", api.Task{C: 1000, Use: many(0, 256)}, false},
	} {
		want := []int{}
		if x.told {
			want = x.k.Use
		}
		is(t, x.what+": Used", listed(blocks.Used(x.k)), want)
		is(t, x.what+": Before", listed(blocks.Before(x.k, math.MaxInt64)), want)
		is(t, x.what+": Behind", listed(blocks.Behind(x.k, math.MinInt64)), want)
		is(t, x.what+": All", listed(blocks.All([]api.Task{x.k}, 5)), want)
		if x.told && x.k.C > 1 {
			n, at := blocks.Most(x.k, bits.Of(want...))
			is(t, x.what+": Most", []any{n, at}, []any{len(want), len(want)})
			continue
		}
		for _, p := range []int64{math.MinInt64, -1, 0, 1, 2, 100, 1 << 30, math.MaxInt64} {
			is(t, x.what+": Useful", listed(blocks.Useful(x.k, p)), []int{})
		}
		n, at := blocks.Most(x.k, blocks.Used(api.Task{C: 64, Use: many(0, 64)}))
		is(t, x.what+": Most", []any{n, at}, []any{0, 0})
	}
}

// P9.2: most, by hand.
func TestMost(t *testing.T) {
	row := api.Task{C: 4, Use: []int{1, 2, 1, 3}}
	long := api.Task{C: 1 << 30, Use: many(100, 64)}
	for _, x := range []struct {
		what   string
		k      api.Task
		others []int
		n      int
		at     int64
	}{
		{"the example", row, []int{0, 1, 2, 3}, 1, 1},
		{"what is used once", row, []int{2, 3}, 0, 0},
		{"of none", row, nil, 0, 0},
		{"of others", row, []int{0, 4, 255}, 0, 0},
		{"the least place of several", api.Task{C: 9, Use: []int{1, 2}}, many(0, 9), 2, 2},
		{"only the last place", api.Task{C: 4, Use: []int{1, 2, 3, 3}}, many(0, 9), 1, 3},
		{"a second one later", api.Task{C: 6, Use: []int{1, 2, 1, 2, 3, 3}}, many(0, 9), 2, 2},
		{"a greater one later", api.Task{C: 8, Use: []int{1, 1, 2, 3, 4, 2, 3, 4}}, many(0, 9), 3, 5},
		{"a lesser one later", api.Task{C: 8, Use: []int{2, 3, 4, 2, 3, 4, 1, 1}}, many(0, 9), 3, 3},
		{"two of three asked for", api.Task{C: 6, Use: []int{2, 3, 4}}, []int{3, 4}, 2, 3},
		{"a round and a tick", api.Task{C: 4, Use: []int{5, 6, 7}}, many(0, 9), 1, 1},
		{"a round and two", api.Task{C: 5, Use: []int{5, 6, 7}}, many(0, 9), 2, 2},
		{"two rounds", api.Task{C: 6, Use: []int{5, 6, 7}}, many(0, 9), 3, 3},
		{"a round, no tick more", api.Task{C: 3, Use: []int{5, 6, 7}}, many(0, 9), 0, 0},
		{"one tick", api.Task{C: 1, Use: []int{5}}, []int{5}, 0, 0},
		{"two ticks", api.Task{C: 2, Use: []int{5}}, []int{5}, 1, 1},
		{"2^30 ticks", long, many(100, 64), 64, 64},
		{"2^30 ticks, of a few", long, []int{110, 105, 200}, 2, 11},
		{"2^30 ticks, of none", long, many(0, 100), 0, 0},
		{"2^30 ticks of one set", api.Task{C: 1 << 30, Use: []int{255}}, []int{255}, 1, 1},
		{"2^30 ticks, no sets", api.Task{C: 1 << 30}, many(0, 256), 0, 0},
		{"sets that are none", api.Task{C: 6, Use: []int{-1, 256, 3}}, many(0, 256), 1, 3},
	} {
		n, at := blocks.Most(x.k, bits.Of(x.others...))
		is(t, x.what, []any{n, at}, []any{x.n, x.at})
	}
}

// P9.2: all, by hand.
func TestAll(t *testing.T) {
	l := []api.Task{
		{ID: 1, C: 5, Use: []int{0, 1, 2, 0}},
		{ID: 2, C: 9, Use: []int{2, 7}},
		{ID: 1, C: 9, Use: []int{200}},
		{ID: 3, C: 1, Use: []int{64, 65}},
		{ID: 4, C: 0, Use: []int{66}},
		{ID: -1, C: 2, Use: []int{-1, 255, 254}},
	}
	for id, want := range map[int][]int{
		1:  {2, 7, 64, 255},
		2:  {0, 1, 2, 64, 200, 255},
		3:  {0, 1, 2, 7, 200, 255},
		4:  {0, 1, 2, 7, 64, 200, 255},
		9:  {0, 1, 2, 7, 64, 200, 255},
		-1: {0, 1, 2, 7, 64, 200},
	} {
		is(t, fmt.Sprintf("All(l, %d)", id), listed(blocks.All(l, id)), want)
	}
	is(t, "of no tasks", blocks.All(nil, 1), api.Bits{})
	is(t, "of none but that one", blocks.All(l[1:2], 2), api.Bits{})
}

// drawnTask is a task of few or many sets, some of which may be none, and of some rounds.
func drawnTask(next func(n int) int) api.Task {
	k := api.Task{ID: next(5), C: int64(1 + next(150))}
	wide := []int{3, 20, 300}[next(3)]
	for range next([]int{1, 6, 65}[next(3)]) {
		k.Use = append(k.Use, next(wide)-next(2))
	}
	if next(20) == 0 {
		k.C = int64(next(3)) - 2
	}
	return k
}

// P9.1 and P9.2: drawn tasks, at all of their places, held against the plain way.
func TestDrawn(t *testing.T) {
	next := drawer()
	found := 0
	for range 250 {
		k := drawnTask(next)
		for p := int64(-2); p < k.C+3; p++ {
			is(t, fmt.Sprintf("%d of %+v", p, k), of(k, p), modelOf(k, p))
		}
		var others []int
		for set := range 256 {
			if next(3) > 0 {
				others = append(others, set)
			}
		}
		n, at := blocks.Most(k, bits.Of(others...))
		wantN, wantAt := modelMost(k, others)
		is(t, fmt.Sprintf("Most(%+v, %v)", k, others), []any{n, at}, []any{wantN, wantAt})
		if n > 0 {
			found++
		}
	}
	if found < 100 {
		t.Errorf("only %d drawn tasks have sets that are useful", found)
	}
}

// P9.2: drawn lists, held against the plain way.
func TestDrawnAll(t *testing.T) {
	next := drawer()
	for range 300 {
		var l []api.Task
		for range next(9) {
			l = append(l, drawnTask(next))
		}
		for id := range 6 {
			var met [256]int
			for _, k := range l {
				if k.ID != id {
					for _, set := range walked(k, func(int64) bool { return true }) {
						met[set] = 1
					}
				}
			}
			is(t, fmt.Sprintf("All(%+v, %d)", l, id), len(listed(blocks.All(l, id))), sum(met[:]))
			for _, set := range listed(blocks.All(l, id)) {
				is(t, fmt.Sprintf("All(%+v, %d) has %d", l, id, set), met[set], 1)
			}
		}
	}
}

func sum(l []int) int {
	n := 0
	for _, x := range l {
		n += x
	}
	return n
}

// P9.3: what is useful is used; at the beginning and at the end nothing is useful; what is ahead and behind is all.
func TestFollows(t *testing.T) {
	next := drawer()
	for range 500 {
		k := drawnTask(next)
		if next(2) == 0 {
			k.C = 1<<30 - int64(next(70))
		}
		used := blocks.Used(k)
		for _, p := range []int64{math.MinInt64, -1, 0, 1, 2, 3, 64, 65, k.C / 2, k.C - 65, k.C - 2, k.C - 1, k.C, k.C + 1, math.MaxInt64} {
			what := fmt.Sprintf("%d of %+v", p, k)
			useful := blocks.Useful(k, p)
			is(t, what+": useful, and not used", bits.Minus(useful, used), api.Bits{})
			is(t, what+": ahead and behind", bits.Or(blocks.Before(k, p), blocks.Behind(k, p)), used)
			if p <= 0 || p >= k.C {
				is(t, what+": at an end", useful, api.Bits{})
			}
		}
		if n, at := blocks.Most(k, used); n > 0 {
			is(t, fmt.Sprintf("the place of %+v", k), bits.Len(blocks.Useful(k, at)), n)
		}
	}
}

// R3: what is handed in stays as it is, and what is told is the caller's.
func TestMemory(t *testing.T) {
	use := []int{3, 0, 3, 77, -1}
	kept := slices.Clone(use)
	l := []api.Task{{ID: 4, C: 9, Use: use}, {ID: 5, C: 9, Use: use}}
	others := bits.Of(3, 77)
	for p := range int64(10) {
		of(l[0], p)
	}
	blocks.Most(l[0], others)
	blocks.All(l, 4)
	is(t, "the list of sets", use, kept)
	is(t, "the others", others, bits.Of(3, 77))
	is(t, "the tasks", l, []api.Task{{ID: 4, C: 9, Use: kept}, {ID: 5, C: 9, Use: kept}})
	used := blocks.Used(l[0])
	used[0] = 0
	is(t, "what is told", listed(blocks.Used(l[0])), []int{0, 3, 77})
	use[1] = 9
	is(t, "nothing is kept", listed(blocks.Used(l[0])), []int{3, 9, 77})
}

// R4: the same calls have the same answers.
func TestSameAnswers(t *testing.T) {
	run := func() string {
		next := drawer()
		said := ""
		for range 50 {
			k := drawnTask(next)
			n, at := blocks.Most(k, blocks.All([]api.Task{k}, next(5)))
			said += fmt.Sprint(of(k, int64(next(100))), n, at, " ")
		}
		return said
	}
	first := run()
	for range 3 {
		is(t, "the same calls", run() == first, true)
	}
}

// R5: no list is too long, and 2^30 ticks are told without going through them all.
func TestLong(t *testing.T) {
	wide := api.Task{ID: 2, C: 1 << 30, Use: make([]int, 1<<20)}
	is(t, "a long row of sets", of(wide, 5), [4][]int{})
	n, at := blocks.Most(wide, bits.Of(0))
	is(t, "its most", []any{n, at}, []any{0, 0})
	l := make([]api.Task, 1<<14)
	for i := range l {
		l[i] = api.Task{ID: i, C: 1 << 30, Use: []int{i % 300}}
	}
	is(t, "a long list of tasks", listed(blocks.All(append(l, wide), 3)), many(0, 256))
	long := api.Task{C: 1 << 30, Use: many(190, 64)}
	for _, p := range []int64{64, 65, 1 << 29, 1<<30 - 65, 1<<30 - 64} {
		is(t, fmt.Sprint("in the middle: ", p), listed(blocks.Useful(long, p)), long.Use)
	}
	is(t, "a tick too far", listed(blocks.Useful(long, 1<<30-63)), long.Use[1:])
	is(t, "the last tick", listed(blocks.Useful(long, 1<<30-1)), long.Use[63:])
	is(t, "the first tick", listed(blocks.Useful(long, 1)), long.Use[:1])
}
