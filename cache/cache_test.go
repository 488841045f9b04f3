package cache_test

import (
	"fmt"
	"math"
	"slices"
	"testing"

	"ostinato/api"
	"ostinato/bits"
	"ostinato/cache"
)

// model is a cache told the plain way: how many sets, and whose each one is that is somebody's; none is a nil cache.
type model struct {
	none  bool
	sets  int
	owner map[int]int
}

func newModel(sets int) *model {
	return &model{none: sets < 0 || sets > 256, sets: sets, owner: map[int]int{}}
}

func (m *model) size() int {
	if m.none {
		return 0
	}
	return m.sets
}

func (m *model) use(set, owner int) bool {
	if m.none || set < 0 || set >= m.sets || owner < 1 || owner > 99 {
		return false
	}
	was := m.owner[set] == owner
	m.owner[set] = owner
	return was
}

func (m *model) of(owner int) []int {
	var l []int
	for set := range 256 {
		if owner > 0 && m.owner[set] == owner {
			l = append(l, set)
		}
	}
	return l
}

// seen reads the set from its words alone.
func seen(w api.Work, set int) bool {
	return w.Seen[set/64]>>(set%64)&1 == 1
}

// step follows the chapter's section Words, sentence by sentence.
func (m *model) step(t api.Task, reload int64, w api.Work) (api.Work, bool) {
	if m.none || w.Done < 0 || w.Done >= w.Demand || w.Debt < 0 || reload < 0 || reload > 1000 || t.ID < 1 || t.ID > 99 {
		return w, false
	}
	if w.Debt > 0 {
		w.Debt, w.Reloads = w.Debt-1, w.Reloads+1
		return w, true
	}
	set := -1
	if len(t.Use) > 0 {
		set = t.Use[w.Done%int64(len(t.Use))]
	}
	such := set >= 0 && set < m.sets
	if such && seen(w, set) && m.owner[set] != t.ID && reload > 0 {
		m.owner[set] = t.ID
		w.Debt, w.Reloads = reload-1, w.Reloads+1
		return w, true
	}
	w.Done++
	if such {
		m.owner[set] = t.ID
		w.Seen[set/64] |= 1 << (set % 64)
	}
	return w, false
}

// is holds what was told against what ought to be; lists without elements are all the same.
func is(t *testing.T, what string, got, want any) {
	t.Helper()
	if g, w := fmt.Sprintf("%+v", got), fmt.Sprintf("%+v", want); g != w {
		t.Fatalf("%.300s: %.300s, want %.300s", what, g, w)
	}
}

// pair is a cache and its model, that are asked the same.
type pair struct {
	c *cache.Cache
	m *model
}

func newPair(sets int) pair {
	return pair{cache.New(sets), newModel(sets)}
}

// look holds all that is told without a change.
func (p pair) look(t *testing.T, what string) {
	t.Helper()
	is(t, what+": Sets", p.c.Sets(), p.m.size())
	for set := -2; set < 259; set++ {
		if got := p.c.Owner(set); got != p.m.owner[set] {
			t.Fatalf("%s: Owner(%d) = %d, want %d", what, set, got, p.m.owner[set])
		}
	}
	for owner := -1; owner < 102; owner++ {
		if got := listed(p.c.Of(owner)); !slices.Equal(got, p.m.of(owner)) {
			t.Fatalf("%s: Of(%d) = %v, want %v", what, owner, got, p.m.of(owner))
		}
	}
}

// listed reads the numbers of a set from its words alone.
func listed(a api.Bits) []int {
	var l []int
	for i := range 256 {
		if a[i/64]>>(i%64)&1 == 1 {
			l = append(l, i)
		}
	}
	return l
}

// step asks both the same step, and tells what is told.
func (p pair) step(t *testing.T, k api.Task, reload int64, w api.Work) (api.Work, bool) {
	t.Helper()
	got, loads := p.c.Step(k, reload, w)
	want, wantLoads := p.m.step(k, reload, w)
	is(t, fmt.Sprintf("Step(%+v, %d, %+v)", k, reload, w), []any{got, loads}, []any{want, wantLoads})
	return got, loads
}

// use asks both the same use.
func (p pair) use(t *testing.T, set, owner int) {
	t.Helper()
	is(t, fmt.Sprintf("Use(%d, %d)", set, owner), p.c.Use(set, owner), p.m.use(set, owner))
}

// drawer tells numbers below n, the same ones at every start.
func drawer() func(n int) int {
	x := uint64(88172645463325252)
	return func(n int) int {
		x ^= x << 13
		x ^= x >> 7
		x ^= x << 17
		return int(x>>1) % n
	}
}

// far are numbers that are no set's and no owner's.
func far() []int {
	return []int{-1, -2, -64, -99, -256, 256, 257, 300, 512, 1 << 16, 1<<31 - 1, 1 << 31, 1 << 32, 1<<32 + 1, -1 << 31, math.MaxInt, math.MinInt, math.MinInt + 1}
}

// P8.1: of which numbers there is a cache, and that its sets are nobody's.
func TestNew(t *testing.T) {
	for sets := -3; sets < 260; sets++ {
		p := newPair(sets)
		is(t, fmt.Sprint("no cache of ", sets), p.c == nil, sets < 0 || sets > 256)
		p.look(t, fmt.Sprint("new of ", sets))
	}
	for _, sets := range far() {
		if sets != 256 {
			is(t, fmt.Sprint("no cache of ", sets), cache.New(sets) == nil, true)
		}
	}
}

// P8.1, by hand: the chapter's example, and what is told behind it.
func TestUseByHand(t *testing.T) {
	c := cache.New(4)
	is(t, "the example", []bool{c.Use(3, 1), c.Use(3, 1), c.Use(3, 2), c.Use(3, 1)}, []bool{false, true, false, false})
	is(t, "Owner", []int{c.Owner(-1), c.Owner(0), c.Owner(3), c.Owner(4)}, []int{0, 0, 1, 0})
	is(t, "another set", c.Use(0, 1), false)
	is(t, "the edges of owners", []bool{c.Use(1, 1), c.Use(1, 99), c.Use(1, 99), c.Use(1, 0), c.Use(1, 100), c.Use(1, 99)}, []bool{false, false, true, false, false, true})
	is(t, "the edges of sets", []bool{c.Use(-1, 1), c.Use(-1, 1), c.Use(4, 1), c.Use(4, 1)}, make([]bool, 4))
	is(t, "Of", [][]int{bits.List(c.Of(1)), bits.List(c.Of(2)), bits.List(c.Of(99))}, [][]int{{0, 3}, nil, {1}})
	is(t, "Of nobody", c.Of(0), api.Bits{})
	c.Flush()
	is(t, "flushed", []any{c.Owner(0), c.Owner(1), c.Owner(3), c.Of(1), c.Of(99), c.Sets()}, []any{0, 0, 0, api.Bits{}, api.Bits{}, 4})
	is(t, "behind the flush", []bool{c.Use(3, 1), c.Use(3, 1)}, []bool{false, true})
}

// P8.1: every set of a full cache has an owner of its own, through all owners.
func TestAllSetsAndOwners(t *testing.T) {
	p := newPair(256)
	for round := range 3 {
		for set := range 256 {
			p.use(t, set, (set*7+round*31)%99+1)
			p.use(t, set, (set*7+round*31)%99+1)
		}
		p.look(t, fmt.Sprint("round ", round))
	}
	p.c.Flush()
	clear(p.m.owner)
	p.look(t, "flushed")
	for set := range 256 {
		p.use(t, set, 64)
	}
	p.look(t, "of one owner")
	is(t, "Of", p.c.Of(64), api.Bits{math.MaxUint64, math.MaxUint64, math.MaxUint64, math.MaxUint64})
}

// P8.1: no such set, and owners that are none, change nothing.
func TestUseWrong(t *testing.T) {
	for _, sets := range []int{0, 1, 63, 64, 65, 255, 256} {
		p := newPair(sets)
		for set := range sets {
			p.use(t, set, set%99+1)
		}
		for _, n := range append(far(), sets, sets+1) {
			if n >= 0 && n < sets {
				continue
			}
			p.use(t, n, 1)
			p.use(t, n, 1)
			is(t, fmt.Sprint("Owner of ", n), p.c.Owner(n), 0)
		}
		for _, n := range append(far(), 0, 100) {
			p.use(t, 0, n)
			p.use(t, sets-1, n)
			is(t, fmt.Sprint("Of ", n), p.c.Of(n), api.Bits{})
		}
		p.look(t, fmt.Sprint("of ", sets))
	}
}

// P8.1 and P8.2: a nil cache tells nothing, and keeps nothing.
func TestNil(t *testing.T) {
	for _, sets := range []int{-1, 257, math.MinInt} {
		p := newPair(sets)
		p.use(t, 0, 1)
		p.use(t, 0, 1)
		p.c.Flush()
		for _, w := range []api.Work{{}, {Demand: 3}, {Done: 1, Demand: 3, Debt: 2, Reloads: 5, Seen: bits.Of(1, 255)}, {Done: -1, Debt: -1}} {
			got, loads := p.step(t, api.Task{ID: 1, Use: []int{0}}, 2, w)
			is(t, "Step of a nil cache", []any{got, loads}, []any{w, false})
		}
		p.look(t, "nil")
	}
	var c *cache.Cache
	c.Flush()
	is(t, "nil", []any{c.Sets(), c.Use(0, 1), c.Owner(0), c.Of(1)}, []any{0, false, 0, api.Bits{}})
}

// P8.2, by hand: a reload of so many ticks, and the work behind it.
func TestStepByHand(t *testing.T) {
	two := api.Task{ID: 2, Use: []int{3, 0}}
	for _, c := range []struct {
		what   string
		owner  int // whose set 3 is, ahead of the step
		reload int64
		w      api.Work
		want   api.Work
		loads  bool
		whose  int // whose it is behind it
	}{
		{"a first use", 0, 5, api.Work{Demand: 4}, api.Work{Done: 1, Demand: 4, Seen: bits.Of(3)}, false, 2},
		{"a first use of another's", 1, 5, api.Work{Demand: 4}, api.Work{Done: 1, Demand: 4, Seen: bits.Of(3)}, false, 2},
		{"a use again", 2, 5, api.Work{Done: 2, Demand: 4, Seen: bits.Of(3)}, api.Work{Done: 3, Demand: 4, Seen: bits.Of(3)}, false, 2},
		{"a use of its own, that this job has not seen", 2, 5, api.Work{Done: 2, Demand: 4, Seen: bits.Of(0)}, api.Work{Done: 3, Demand: 4, Seen: bits.Of(0, 3)}, false, 2},
		{"another one has it", 1, 5, api.Work{Done: 2, Demand: 4, Reloads: 7, Seen: bits.Of(3)}, api.Work{Done: 2, Demand: 4, Debt: 4, Reloads: 8, Seen: bits.Of(3)}, true, 2},
		{"nobody has it any more", 0, 5, api.Work{Done: 2, Demand: 4, Seen: bits.Of(3)}, api.Work{Done: 2, Demand: 4, Debt: 4, Reloads: 1, Seen: bits.Of(3)}, true, 2},
		{"a reload of one tick", 1, 1, api.Work{Done: 2, Demand: 4, Seen: bits.Of(3)}, api.Work{Done: 2, Demand: 4, Reloads: 1, Seen: bits.Of(3)}, true, 2},
		{"the longest reload", 1, 1000, api.Work{Done: 2, Demand: 4, Seen: bits.Of(3)}, api.Work{Done: 2, Demand: 4, Debt: 999, Reloads: 1, Seen: bits.Of(3)}, true, 2},
		{"a reload of none", 1, 0, api.Work{Done: 2, Demand: 4, Seen: bits.Of(3)}, api.Work{Done: 3, Demand: 4, Seen: bits.Of(3)}, false, 2},
		{"a reload goes on, and uses nothing", 1, 5, api.Work{Done: 2, Demand: 4, Debt: 4, Reloads: 1, Seen: bits.Of(3)}, api.Work{Done: 2, Demand: 4, Debt: 3, Reloads: 2, Seen: bits.Of(3)}, true, 1},
		{"a reload ends", 2, 5, api.Work{Done: 2, Demand: 4, Debt: 1, Reloads: 4, Seen: bits.Of(3)}, api.Work{Done: 2, Demand: 4, Reloads: 5, Seen: bits.Of(3)}, true, 2},
		{"a debt is paid, whatever the reload", 0, 0, api.Work{Demand: 1, Debt: 9}, api.Work{Demand: 1, Debt: 8, Reloads: 1}, true, 0},
		{"a debt above any reload", 0, 1, api.Work{Demand: 1, Debt: math.MaxInt64}, api.Work{Demand: 1, Debt: math.MaxInt64 - 1, Reloads: 1}, true, 0},
		{"the last tick", 2, 5, api.Work{Done: 4, Demand: 5, Seen: bits.Of(3)}, api.Work{Done: 5, Demand: 5, Seen: bits.Of(3)}, false, 2},
		{"all is done", 1, 5, api.Work{Done: 4, Demand: 4, Seen: bits.Of(3)}, api.Work{Done: 4, Demand: 4, Seen: bits.Of(3)}, false, 1},
		{"all is done, with a debt", 1, 5, api.Work{Done: 4, Demand: 4, Debt: 3}, api.Work{Done: 4, Demand: 4, Debt: 3}, false, 1},
		{"it was another set's turn", 1, 5, api.Work{Done: 1, Demand: 4, Seen: bits.Of(3)}, api.Work{Done: 2, Demand: 4, Seen: bits.Of(0, 3)}, false, 1},
	} {
		k := cache.New(4)
		k.Use(3, c.owner)
		got, loads := k.Step(two, c.reload, c.w)
		is(t, c.what, []any{got, loads, k.Owner(3)}, []any{c.want, c.loads, c.whose})
	}
}

// P8.2, by hand: two jobs that take each other's set; who comes back reloads only what it lost, one reload a set.
func TestTurnsByHand(t *testing.T) {
	c := cache.New(2)
	one, two := api.Task{ID: 1, Use: []int{0, 1}}, api.Task{ID: 2, Use: []int{1}}
	v, w := api.Work{Demand: 4}, api.Work{Demand: 2}
	var loads []bool
	run := func(k api.Task, w *api.Work) {
		next, load := c.Step(k, 2, *w)
		*w = next
		loads = append(loads, load)
	}
	run(one, &v)
	run(one, &v)
	run(two, &w) // takes set 1
	for range 4 {
		run(one, &v) // set 0 is still its own; set 1 is reloaded for two ticks
	}
	for range 3 {
		run(two, &w)
	}
	is(t, "reloads", loads, []bool{false, false, false, false, true, true, false, true, true, false})
	is(t, "works", []api.Work{v, w}, []api.Work{{Done: 4, Demand: 4, Reloads: 2, Seen: bits.Of(0, 1)}, {Done: 2, Demand: 2, Reloads: 2, Seen: bits.Of(1)}})
	is(t, "owners", []int{c.Owner(0), c.Owner(1)}, []int{1, 2})
}

// P8.2, by hand: a set that is lost while it is reloaded is reloaded once more; a flush takes it too.
func TestLostAgain(t *testing.T) {
	c := cache.New(1)
	k := api.Task{ID: 7, Use: []int{0}}
	w := api.Work{Done: 1, Demand: 2, Seen: bits.Of(0)}
	step := func() bool {
		next, load := c.Step(k, 3, w)
		w = next
		return load
	}
	is(t, "a reload begins", []any{step(), w.Debt, c.Owner(0)}, []any{true, int64(2), 7})
	c.Use(0, 8)
	is(t, "it ends, and the set is another's", []any{step(), step(), w.Debt, c.Owner(0)}, []any{true, true, int64(0), 8})
	is(t, "it begins once more", []any{step(), w.Debt, c.Owner(0)}, []any{true, int64(2), 7})
	is(t, "it ends", []any{step(), step()}, []any{true, true})
	c.Flush()
	is(t, "flushed", []any{step(), step(), step(), step(), w}, []any{true, true, true, false, api.Work{Done: 2, Demand: 2, Reloads: 9, Seen: bits.Of(0)}})
}

// P8.2: what is refused is told as it was, and changes nothing.
func TestStepWrong(t *testing.T) {
	seen := bits.Of(0, 3, 200)
	right := func() (api.Task, int64, api.Work) {
		return api.Task{ID: 2, Use: []int{3, 0}}, 5, api.Work{Done: 2, Demand: 4, Seen: seen}
	}
	for _, c := range []struct {
		what   string
		change func(k *api.Task, reload *int64, w *api.Work)
	}{
		{"Done below 0", func(k *api.Task, reload *int64, w *api.Work) { w.Done = -1 }},
		{"Done and Demand below 0", func(k *api.Task, reload *int64, w *api.Work) { w.Done, w.Demand = -3, -2 }},
		{"the least Done", func(k *api.Task, reload *int64, w *api.Work) { w.Done = math.MinInt64 }},
		{"Done of all", func(k *api.Task, reload *int64, w *api.Work) { w.Done = 4 }},
		{"Done of more", func(k *api.Task, reload *int64, w *api.Work) { w.Done = 5 }},
		{"Done of the most", func(k *api.Task, reload *int64, w *api.Work) { w.Done, w.Demand = math.MaxInt64, math.MaxInt64 }},
		{"no Demand", func(k *api.Task, reload *int64, w *api.Work) { w.Done, w.Demand = 0, 0 }},
		{"Demand below 0", func(k *api.Task, reload *int64, w *api.Work) { w.Done, w.Demand = 0, math.MinInt64 }},
		{"Debt below 0", func(k *api.Task, reload *int64, w *api.Work) { w.Debt = -1 }},
		{"the least Debt", func(k *api.Task, reload *int64, w *api.Work) { w.Debt = math.MinInt64 }},
		{"a reload below 0", func(k *api.Task, reload *int64, w *api.Work) { *reload = -1 }},
		{"the least reload", func(k *api.Task, reload *int64, w *api.Work) { *reload = math.MinInt64 }},
		{"a reload above 1000", func(k *api.Task, reload *int64, w *api.Work) { *reload = 1001 }},
		{"the greatest reload", func(k *api.Task, reload *int64, w *api.Work) { *reload = math.MaxInt64 }},
		{"a reload above 1000, in a debt", func(k *api.Task, reload *int64, w *api.Work) { *reload, w.Debt = 1001, 3 }},
		{"nobody", func(k *api.Task, reload *int64, w *api.Work) { k.ID = 0 }},
		{"an ID below 0", func(k *api.Task, reload *int64, w *api.Work) { k.ID = -2 }},
		{"an ID above 99", func(k *api.Task, reload *int64, w *api.Work) { k.ID = 100 }},
		{"the greatest ID, in a debt", func(k *api.Task, reload *int64, w *api.Work) { k.ID, w.Debt = math.MaxInt, 3 }},
	} {
		for _, owner := range []int{0, 1, 2} {
			k, reload, w := right()
			c.change(&k, &reload, &w)
			p := newPair(4)
			p.use(t, 3, owner)
			p.use(t, 0, owner)
			got, loads := p.step(t, k, reload, w)
			is(t, c.what, []any{got, loads}, []any{w, false})
			p.look(t, c.what)
		}
	}
}

// P8.2: sets that are none of the cache's are as none: the work goes on, and none is seen.
func TestStepOutside(t *testing.T) {
	for _, sets := range []int{0, 1, 64, 255, 256} {
		for _, use := range append(far(), sets, sets+1) {
			if use >= 0 && use < sets {
				continue
			}
			p := newPair(sets)
			k := api.Task{ID: 5, Use: []int{use}}
			w := api.Work{Done: 1, Demand: 3, Seen: api.Bits{math.MaxUint64, math.MaxUint64, math.MaxUint64, math.MaxUint64 >> 1}}
			got, loads := p.step(t, k, 9, w)
			w.Done = 2
			is(t, fmt.Sprintf("set %d of %d", use, sets), []any{got, loads}, []any{w, false})
			p.look(t, fmt.Sprintf("set %d of %d", use, sets))
		}
	}
	p := newPair(4)
	got, loads := p.step(t, api.Task{ID: 5}, 9, api.Work{Demand: 3, Seen: bits.Of(0)})
	is(t, "a task that uses none", []any{got, loads}, []any{api.Work{Done: 1, Demand: 3, Seen: bits.Of(0)}, false})
	p.look(t, "a task that uses none")
}

// P8.2: each set of each cache is lost, reloaded and kept.
func TestStepEachSet(t *testing.T) {
	for _, sets := range []int{1, 2, 64, 65, 256} {
		for set := range sets {
			p := newPair(sets)
			k := api.Task{ID: set%99 + 1, Use: []int{set}}
			w, _ := p.step(t, k, 2, api.Work{Demand: 3})
			p.use(t, set, (set+1)%99+1)
			for range 5 {
				w, _ = p.step(t, k, 2, w)
			}
			is(t, fmt.Sprintf("set %d of %d", set, sets), w, api.Work{Done: 3, Demand: 3, Reloads: 2, Seen: bits.Of(set)})
			is(t, "its owner", p.c.Owner(set), set%99+1)
		}
	}
}

// drawnTask is a task of that ID, whose sets lie in the cache, but for some.
func drawnTask(next func(n int) int, id, sets int) api.Task {
	k := api.Task{ID: id, Prio: 1 + next(99), C: int64(1 + next(30))}
	for range next([]int{1, 4, 64}[next(3)]) {
		k.Use = append(k.Use, next(sets+2)-next(2))
	}
	return k
}

// P8.1 and P8.2: drawn calls, held against the plain way, with all that is told behind them.
func TestDrawn(t *testing.T) {
	next := drawer()
	reloads := 0
	for range 300 {
		sets := []int{0, 1, 2, 5, 64, 256}[next(6)]
		p := newPair(sets)
		var l []api.Task
		works := make([]api.Work, 1+next(6))
		for i := range works {
			l = append(l, drawnTask(next, 1+next(99), sets))
			works[i].Demand = l[i].C
		}
		for range 100 {
			i := next(len(l))
			reload := int64([]int{0, 1, 2, 5, 1000, 1001, -1}[next(7)])
			switch next(12) {
			case 0:
				p.use(t, next(sets+3)-1, next(102)-1)
			case 1:
				p.use(t, next(sets+1), l[i].ID)
			case 2:
				works[i] = api.Work{Demand: int64(next(20)), Debt: int64(next(4)) - 1, Seen: works[i].Seen}
			case 3:
				if next(10) == 0 {
					p.c.Flush()
					clear(p.m.owner)
				}
			default:
				var load bool
				works[i], load = p.step(t, l[i], reload, works[i])
				if load {
					reloads++
				}
			}
		}
		p.look(t, "drawn")
	}
	if reloads < 1000 {
		t.Errorf("only %d drawn ticks were reloads", reloads)
	}
}

// P8.3: who runs alone reloads nothing: job by job, whatever the cache held ahead of it.
func TestAlone(t *testing.T) {
	next := drawer()
	for range 500 {
		sets := next(257)
		c := cache.New(sets)
		for range next(300) {
			c.Use(next(sets+1), 1+next(99))
		}
		k := drawnTask(next, 1+next(99), sets)
		reload := int64(next(1001))
		for range 3 {
			w := api.Work{Demand: k.C + int64(next(100))}
			for tick := range w.Demand {
				var load bool
				w, load = c.Step(k, reload, w)
				is(t, "alone", []any{load, w.Done, w.Debt, w.Reloads}, []any{false, tick + 1, int64(0), int64(0)})
			}
		}
	}
}

// P8.3: it is alone too beside those that use other sets.
func TestApart(t *testing.T) {
	c := cache.New(256)
	var l []api.Task
	works := make([]api.Work, 64)
	for i := range works {
		l = append(l, api.Task{ID: i + 1, Use: []int{i, 255 - i, i + 64, i}})
		works[i].Demand = 50
	}
	for tick := range 50 * 64 {
		i := tick * 5 % 64
		var load bool
		works[i], load = c.Step(l[i], 10, works[i])
		is(t, "apart", load, false)
	}
	for i, w := range works {
		is(t, "all is done", w, api.Work{Done: 50, Demand: 50, Seen: bits.Of(l[i].Use...)})
	}
}

// R3: what is handed in stays as it is, and caches share nothing.
func TestMemory(t *testing.T) {
	use := []int{3, 0, 3, 77, -1}
	kept := slices.Clone(use)
	k := api.Task{ID: 4, C: 9, Use: use}
	c, d := cache.New(8), cache.New(8)
	w := api.Work{Demand: 9, Seen: bits.Of(0)}
	for range 30 {
		c.Step(k, 3, w)
	}
	is(t, "the work", w, api.Work{Demand: 9, Seen: bits.Of(0)})
	is(t, "the list", use, kept)
	is(t, "two caches", []any{c.Owner(3), d.Owner(3), d.Of(4)}, []any{4, 0, api.Bits{}})
	use[0] = 5
	is(t, "the list is not kept", []int{c.Owner(3), c.Owner(5)}, []int{4, 0})
	of := c.Of(4)
	of[0] = 0
	is(t, "what is told is the caller's", listed(c.Of(4)), []int{3})
	d.Use(3, 9)
	d.Flush()
	is(t, "the other one's flush", c.Owner(3), 4)
}

// R4: the same calls have the same answers, and looking changes nothing.
func TestSameAnswers(t *testing.T) {
	run := func() string {
		c := cache.New(6)
		k := api.Task{ID: 3, Use: []int{1, 5, 6}}
		w := api.Work{Demand: 9}
		said := ""
		for i := range 40 {
			if i%7 == 3 {
				c.Use(i%6, 8)
			}
			next, load := c.Step(k, 2, w)
			w = next
			said += fmt.Sprint(load, w, c.Of(3), c.Of(8), c.Owner(i), c.Sets(), " ")
		}
		return said
	}
	first := run()
	for range 3 {
		is(t, "the same calls", run() == first, true)
	}
}

// R5: lists of any length, and numbers of any size, are answered.
func TestLong(t *testing.T) {
	const n = 1 << 20
	use := make([]int, n)
	use[n-1] = 2
	c := cache.New(3)
	k := api.Task{ID: 99, Use: use}
	w, load := c.Step(k, 1, api.Work{Done: n - 1, Demand: math.MaxInt64})
	is(t, "a long list", []any{w, load, c.Owner(2)}, []any{api.Work{Done: n, Demand: math.MaxInt64, Seen: bits.Of(2)}, false, 99})
	w, load = c.Step(k, 1, api.Work{Done: math.MaxInt64 - 1, Demand: math.MaxInt64})
	is(t, "the last of all", []any{w.Done, load}, []any{int64(math.MaxInt64), false})
	c.Flush()
	w, load = c.Step(k, 1, api.Work{Done: math.MaxInt64 - 2, Demand: math.MaxInt64, Seen: bits.Of(0)})
	is(t, "a reload far on", []any{w.Done, w.Reloads, load}, []any{int64(math.MaxInt64 - 2), int64(1), true})
}
