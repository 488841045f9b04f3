package demand_test

import (
	"fmt"
	"math"
	"math/big"
	"slices"
	"testing"

	"ostinato/api"
	"ostinato/demand"
)

// The latest time, the most work that is told, and the greatest work and period of a demand.
const (
	mostTime = 1 << 41
	mostWork = 1 << 62
	mostC    = 1 << 40
	mostT    = 1 << 30
)

// is holds what was told against what ought to be.
func is(t *testing.T, what string, got, want any) {
	t.Helper()
	if g, w := fmt.Sprintf("%+v", got), fmt.Sprintf("%+v", want); g != w {
		t.Fatalf("%.300s: %.300s, want %.300s", what, g, w)
	}
}

// drawer tells numbers that look drawn, and are the same each time.
func drawer() func(n int64) int64 {
	x := uint64(88172645463325252)
	return func(n int64) int64 {
		x ^= x << 13
		x ^= x >> 7
		x ^= x << 17
		return int64(x % uint64(n))
	}
}

// answer is what a call tells of a time.
type answer struct {
	N  int64
	OK bool
}

func told(n int64, ok bool) answer { return answer{n, ok} }

// periodic is what Period tells, loaded what Load tells.
type periodic struct {
	N int64
	E int
}

type loaded struct {
	Work, N int64
	E       int
}

func period(l []api.Dem) periodic {
	n, e := demand.Period(l)
	return periodic{n, int(e)}
}

func load(l []api.Dem) loaded {
	work, n, e := demand.Load(l)
	return loaded{work, n, int(e)}
}

// dem is a demand, of its C, D and T.
func dem(c, d, t int64) api.Dem { return api.Dem{C: c, D: d, T: t} }

// alike are n of the same demand.
func alike(n int, d api.Dem) []api.Dem { return slices.Repeat([]api.Dem{d}, n) }

// modelOf goes through the jobs that are released up to t one by one, of a few ticks.
func modelOf(l []api.Dem, t int64) answer {
	work := new(big.Int)
	for _, d := range l {
		for release := int64(0); release <= t; release += d.T {
			if release+d.D <= t {
				work.Add(work, big.NewInt(d.C))
			}
		}
	}
	return fits(work)
}

// fits tells work that is not above 2^62.
func fits(work *big.Int) answer {
	if work.Cmp(big.NewInt(mostWork)) > 0 {
		return answer{}
	}
	return answer{work.Int64(), true}
}

// isDeadline tells whether t is a deadline of one of l.
func isDeadline(l []api.Dem, t int64) bool {
	return slices.ContainsFunc(l, func(d api.Dem) bool { return t >= d.D && (t-d.D)%d.T == 0 })
}

// modelNext goes from tick to tick.
func modelNext(l []api.Dem, t int64) answer {
	for n := t + 1; len(l) > 0; n++ {
		if isDeadline(l, n) {
			return answer{n, true}
		}
	}
	return answer{}
}

// modelLast goes back from tick to tick.
func modelLast(l []api.Dem, t int64) answer {
	for n := t - 1; n >= 0; n-- {
		if isDeadline(l, n) {
			return answer{n, true}
		}
	}
	return answer{}
}

// modelSlack goes from tick to tick, and reckons the work due anew at each deadline.
func modelSlack(l []api.Dem, from, to int64, of func(l []api.Dem, t int64) answer) answer {
	var least answer
	for t := from; t < to; t++ {
		if !isDeadline(l, t) {
			continue
		}
		work := of(l, t)
		if !work.OK {
			return answer{}
		}
		if n := t - work.N; !least.OK || n < least.N {
			least = answer{n, true}
		}
	}
	return least
}

// drawn are up to most demands, of periods up to longest; now and then of no work, or of the same periods.
func drawn(next func(n int64) int64, most, longest int64) []api.Dem {
	var l []api.Dem
	for range next(most + 1) {
		d := dem(next(9), 0, 1+next(longest))
		if len(l) > 0 && next(4) == 0 {
			d.T = l[0].T
		}
		d.D = 1 + next(d.T)
		l = append(l, d)
	}
	return l
}

// refused holds that nothing is told of l.
func refused(t *testing.T, what string, l []api.Dem) {
	t.Helper()
	is(t, what+": Check", demand.Check(l), false)
	for _, at := range []int64{0, 5, 30, 1000, mostTime} {
		is(t, what+": Of", told(demand.Of(l, at)), answer{})
		is(t, what+": Next", told(demand.Next(l, at)), answer{})
		is(t, what+": Last", told(demand.Last(l, at)), answer{})
		is(t, what+": Slack", told(demand.Slack(l, 0, min(at, 1<<20))), answer{})
	}
	is(t, what+": Period", period(l), periodic{0, int(api.ErrArg)})
	is(t, what+": Load", load(l), loaded{0, 0, int(api.ErrArg)})
}

// P11.1: which demands may be, on both sides of each edge; of the others nothing is told, whatever else is wrong.
func TestCheck(t *testing.T) {
	good := dem(2, 4, 5)
	for _, l := range [][]api.Dem{
		nil, {}, {good}, {good, good}, alike(64, good),
		{dem(0, 4, 5)}, {dem(mostC, 4, 5)}, {dem(2, 1, 5)}, {dem(2, 5, 5)}, {dem(2, 1, 1)}, {dem(2, 4, mostT)}, {dem(2, mostT, mostT)},
		{dem(0, 1, 1)}, {dem(mostC, mostT, mostT)}, {dem(9, 4, 5)}, alike(64, dem(mostC, 1, 1)), alike(64, dem(mostC, mostT, mostT)),
	} {
		is(t, fmt.Sprint(l), demand.Check(l), true)
	}
	for _, d := range []api.Dem{
		dem(-1, 4, 5), dem(mostC+1, 4, 5), dem(2, 0, 5), dem(2, -1, 5), dem(2, 6, 5), dem(2, 0, 0), dem(2, 1, 0), dem(2, 4, -5), dem(2, -4, -5), dem(2, -4, -3),
		dem(2, 4, mostT+1), dem(2, mostT+1, mostT+1), dem(2, mostT+1, mostT), {}, dem(2, 1<<20+1, 1<<20),
		dem(math.MinInt64, 4, 5), dem(math.MaxInt64, 4, 5), dem(2, math.MinInt64, 5), dem(2, math.MaxInt64, 5), dem(2, 4, math.MinInt64), dem(2, 4, math.MaxInt64),
		dem(1<<32+2, 1<<32+4, 1<<32+5), dem(math.MaxInt64, math.MaxInt64, math.MaxInt64), dem(math.MinInt64, math.MinInt64, math.MinInt64),
	} {
		refused(t, fmt.Sprint(d), []api.Dem{d})
		refused(t, fmt.Sprint(d, " ahead"), []api.Dem{d, good, good})
		refused(t, fmt.Sprint(d, " between"), []api.Dem{good, d, good})
		refused(t, fmt.Sprint(d, " behind"), append(alike(63, good), d))
		refused(t, fmt.Sprint(d, " and too long a period"), []api.Dem{dem(2, 1, 1<<20+1), d})
	}
	refused(t, "65", alike(65, good))
	refused(t, "65 of no work", alike(65, dem(0, 1, 1)))
	refused(t, "65 of too long a period", alike(65, dem(2, 4, 1<<20+1)))
	refused(t, "2^20", alike(1<<20, good))
}

// P11.1: times that may not be.
func TestTimes(t *testing.T) {
	for _, l := range [][]api.Dem{nil, {dem(2, 4, 5)}, {dem(1, 1, 1), dem(0, 2, 3)}} {
		for _, at := range []int64{-1, -4, -1 << 20, -1 << 41, math.MinInt64, math.MinInt64 + 1, mostTime + 1, mostTime + 4, 1 << 42, 1<<62 + 5, math.MaxInt64 - 1, math.MaxInt64} {
			what := fmt.Sprint(l, at)
			is(t, what+": Of", told(demand.Of(l, at)), answer{})
			is(t, what+": Next", told(demand.Next(l, at)), answer{})
			is(t, what+": Last", told(demand.Last(l, at)), answer{})
			for _, other := range []int64{0, 5, 10, 1 << 20, mostTime - 1, mostTime, at, at &^ 15, at | 15} {
				is(t, fmt.Sprint(what, other, ": Slack from"), told(demand.Slack(l, at, other)), answer{})
				is(t, fmt.Sprint(what, other, ": Slack to"), told(demand.Slack(l, other, at)), answer{})
			}
		}
	}
}

// P11.1: work due, by hand; the chapter's example first.
func TestOfByHand(t *testing.T) {
	two := []api.Dem{dem(2, 3, 6), dem(3, 8, 10)}
	for _, x := range []struct {
		l    []api.Dem
		at   int64
		want int64
	}{
		{[]api.Dem{dem(2, 4, 5)}, 10, 4},
		{[]api.Dem{dem(2, 4, 5)}, 0, 0}, {[]api.Dem{dem(2, 4, 5)}, 3, 0}, {[]api.Dem{dem(2, 4, 5)}, 4, 2}, {[]api.Dem{dem(2, 4, 5)}, 8, 2},
		{[]api.Dem{dem(2, 4, 5)}, 9, 4}, {[]api.Dem{dem(2, 4, 5)}, 13, 4}, {[]api.Dem{dem(2, 4, 5)}, 14, 6},
		{two, 2, 0}, {two, 3, 2}, {two, 7, 2}, {two, 8, 5}, {two, 9, 7}, {two, 15, 9}, {two, 17, 9}, {two, 18, 12}, {two, 30, 19},
		{nil, 0, 0}, {nil, 7, 0}, {nil, mostTime, 0}, {[]api.Dem{dem(0, 1, 1)}, 1000, 0}, {[]api.Dem{dem(1, 1, 1)}, 1000, 1000},
		{[]api.Dem{dem(1, 1, 1)}, mostTime, mostTime}, {[]api.Dem{dem(7, mostT, mostT)}, mostT - 1, 0}, {[]api.Dem{dem(7, mostT, mostT)}, mostT, 7},
		{[]api.Dem{dem(7, mostT, mostT)}, mostTime - 1, 7 * 2047}, {[]api.Dem{dem(7, mostT, mostT)}, mostTime, 7 * 2048},
		{[]api.Dem{dem(7, 1, mostT)}, mostTime, 7 * 2048}, {[]api.Dem{dem(7, 1, mostT)}, mostTime - mostT, 7 * 2047}, {[]api.Dem{dem(7, 1, mostT)}, mostTime - mostT + 1, 7 * 2048},
		{alike(64, dem(3, 2, 2)), 9, 64 * 3 * 4},
	} {
		is(t, fmt.Sprintf("Of(%v, %d)", x.l, x.at), told(demand.Of(x.l, x.at)), answer{x.want, true})
	}
}

// P11.1: just 2^62 is told; what is above is not, nor what would be told if numbers wrapped.
func TestMuchWork(t *testing.T) {
	full := dem(mostC, 1, 1)
	for _, x := range []struct {
		what string
		l    []api.Dem
		at   int64
		want answer
	}{
		{"a job less", []api.Dem{full}, 1<<22 - 1, answer{mostWork - mostC, true}},
		{"just as much", []api.Dem{full}, 1 << 22, answer{mostWork, true}},
		{"a job more", []api.Dem{full}, 1<<22 + 1, answer{}},
		{"below 2^63", []api.Dem{full}, 1<<23 - 1, answer{}},
		{"2^63", []api.Dem{full}, 1 << 23, answer{}},
		{"2^64", []api.Dem{full}, 1 << 24, answer{}},
		{"2^64 and a little", []api.Dem{full}, 1<<24 + 1, answer{}},
		{"2^81", []api.Dem{full}, mostTime, answer{}},
		{"just as much of two", alike(2, full), 1 << 21, answer{mostWork, true}},
		{"a tick's more of two", alike(2, full), 1<<21 + 1, answer{}},
		{"a little more of two", []api.Dem{full, dem(1, 1, mostT)}, 1 << 22, answer{}},
		{"a little more ahead", []api.Dem{dem(1, 1, mostT), full}, 1 << 22, answer{}},
		{"a little more that is due later", []api.Dem{full, dem(1, 1<<22+1, mostT)}, 1 << 22, answer{mostWork, true}},
		{"a little less", []api.Dem{dem(mostC-1, 1<<22, mostT), dem(mostC, 1, 1)}, 1<<22 - 1, answer{mostWork - mostC, true}},
		{"1 less", []api.Dem{dem(mostC-1, 1<<22, mostT), dem(mostC, 2, 1<<21), dem(mostC, 1<<22, mostT)}, 1 << 22, answer{4*mostC - 1, true}},
		{"nothing behind it", []api.Dem{full, dem(0, 1, 1)}, 1 << 22, answer{mostWork, true}},
		{"nothing behind more", []api.Dem{full, dem(0, 1, 1)}, 1<<22 + 1, answer{}},
		{"2^64 of four", alike(4, full), 1 << 22, answer{}},
		{"2^64 of 64", alike(64, full), 1 << 18, answer{}},
		{"2^62 of 64", alike(64, full), 1 << 16, answer{mostWork, true}},
		{"more of 64", alike(64, full), 1<<16 + 1, answer{}},
		{"2^64 and nothing", append(alike(4, full), dem(0, 1, 1)), 1 << 22, answer{}},
		{"2^64 of two, and a little behind", []api.Dem{dem(mostC, 3, 3), full, dem(1, 1, mostT)}, 3 << 22, answer{}},
		{"2^81, and a little behind", []api.Dem{full, dem(1, 1, mostT)}, mostTime, answer{}},
		{"2^87", alike(64, full), mostTime, answer{}},
		{"2^61 at the end", []api.Dem{dem(1<<20, 1, 1)}, mostTime, answer{1 << 61, true}},
		{"2^62 at the end", []api.Dem{dem(1<<21, 1, 1)}, mostTime, answer{mostWork, true}},
		{"more at the end", []api.Dem{dem(1<<21+1, 1, 1)}, mostTime, answer{}},
	} {
		is(t, x.what, told(demand.Of(x.l, x.at)), x.want)
	}
}

// P11.1: deadlines above and below, by hand.
func TestDeadlinesByHand(t *testing.T) {
	two := []api.Dem{dem(2, 3, 6), dem(3, 8, 10)}
	for _, x := range []struct {
		l          []api.Dem
		at         int64
		next, last answer
	}{
		{nil, 0, answer{}, answer{}}, {nil, 7, answer{}, answer{}}, {nil, mostTime, answer{}, answer{}},
		{two, 0, answer{3, true}, answer{}},
		{two, 2, answer{3, true}, answer{}},
		{two, 3, answer{8, true}, answer{}},
		{two, 4, answer{8, true}, answer{3, true}},
		{two, 8, answer{9, true}, answer{3, true}},
		{two, 9, answer{15, true}, answer{8, true}},
		{two, 10, answer{15, true}, answer{9, true}},
		{two, 15, answer{18, true}, answer{9, true}},
		{two, 16, answer{18, true}, answer{15, true}},
		{[]api.Dem{dem(0, 1, 1)}, 0, answer{1, true}, answer{}},
		{[]api.Dem{dem(0, 1, 1)}, 1, answer{2, true}, answer{}},
		{[]api.Dem{dem(0, 1, 1)}, 2, answer{3, true}, answer{1, true}},
		{[]api.Dem{dem(0, 1, 1)}, mostTime, answer{mostTime + 1, true}, answer{mostTime - 1, true}},
		{[]api.Dem{dem(1, 7, 10), dem(0, 2, 10)}, 2, answer{7, true}, answer{}},
		{[]api.Dem{dem(1, 7, 10), dem(0, 2, 10)}, 7, answer{12, true}, answer{2, true}},
		{[]api.Dem{dem(1, mostT, mostT)}, 0, answer{mostT, true}, answer{}},
		{[]api.Dem{dem(1, mostT, mostT)}, mostT, answer{2 * mostT, true}, answer{}},
		{[]api.Dem{dem(1, mostT, mostT)}, mostT + 1, answer{2 * mostT, true}, answer{mostT, true}},
		{[]api.Dem{dem(1, mostT, mostT)}, mostTime, answer{mostTime + mostT, true}, answer{mostTime - mostT, true}},
		{[]api.Dem{dem(1, 1, mostT)}, mostTime, answer{mostTime + 1, true}, answer{mostTime - mostT + 1, true}},
		{[]api.Dem{dem(mostC, mostT-1, mostT), dem(1, 5, mostT)}, mostTime, answer{mostTime + 5, true}, answer{mostTime - 1, true}},
		{alike(64, dem(mostC, 1, 1)), mostTime, answer{mostTime + 1, true}, answer{mostTime - 1, true}},
	} {
		what := fmt.Sprintf("%v at %d", x.l, x.at)
		is(t, what+": Next", told(demand.Next(x.l, x.at)), x.next)
		is(t, what+": Last", told(demand.Last(x.l, x.at)), x.last)
	}
}

// P11.1: drawn demands at all their first times, held against a walk through jobs and ticks.
func TestDrawn(t *testing.T) {
	next := drawer()
	for range 300 {
		l := drawn(next, 6, 1+next(30))
		for at := range int64(90) {
			what := fmt.Sprintf("%v at %d", l, at)
			is(t, what+": Of", told(demand.Of(l, at)), modelOf(l, at))
			is(t, what+": Next", told(demand.Next(l, at)), modelNext(l, at))
			is(t, what+": Last", told(demand.Last(l, at)), modelLast(l, at))
		}
	}
}

// anyOf tells the work due of any time, by numbers that have no end.
func anyOf(l []api.Dem, t int64) answer {
	work := new(big.Int)
	for _, d := range l {
		if t >= d.D {
			jobs := new(big.Int).Div(big.NewInt(t-d.D), big.NewInt(d.T))
			jobs.Add(jobs, big.NewInt(1))
			work.Add(work, jobs.Mul(jobs, big.NewInt(d.C)))
		}
	}
	return fits(work)
}

// P11.1: drawn demands of all sizes at drawn times: the work, and deadlines with none between.
func TestDrawnFar(t *testing.T) {
	next := drawer()
	for range 20000 {
		var l []api.Dem
		for range next(6) {
			d := dem(next(mostC+1)>>next(41), 0, 1+next(mostT)>>next(31))
			d.D = 1 + next(d.T)>>next(31)
			l = append(l, d)
		}
		at := next(mostTime+1) >> next(42)
		what := fmt.Sprintf("%v at %d", l, at)
		is(t, what, demand.Check(l), true)
		is(t, what+": Of", told(demand.Of(l, at)), anyOf(l, at))
		above, below := told(demand.Next(l, at)), told(demand.Last(l, at))
		first := int64(math.MaxInt64)
		for _, d := range l {
			first = min(first, d.D)
		}
		is(t, what+": is there a next", above.OK, len(l) > 0)
		is(t, what+": is there a last", below.OK, first < at)
		if above.OK {
			is(t, what+": Next is a deadline above", isDeadline(l, above.N) && above.N > at, true)
			is(t, what+": none between", anyOf(counting(l), above.N-1), anyOf(counting(l), at))
		}
		if below.OK {
			is(t, what+": Last is a deadline below", isDeadline(l, below.N) && below.N < at, true)
			is(t, what+": none behind", anyOf(counting(l), at-1), anyOf(counting(l), below.N))
		}
	}
}

// counting are demands like l, whose work due tells how many deadlines there were.
func counting(l []api.Dem) []api.Dem {
	l = slices.Clone(l)
	for i := range l {
		l[i].C = 1
	}
	return l
}

// P11.2: periods, on both sides of 2^20, and of products that would wrap.
func TestPeriod(t *testing.T) {
	of := func(periods ...int64) []api.Dem {
		var l []api.Dem
		for _, n := range periods {
			l = append(l, dem(1, 1, n))
		}
		return l
	}
	over := periodic{0, int(api.ErrOver)}
	for _, x := range []struct {
		l    []api.Dem
		want periodic
	}{
		{nil, periodic{1, 0}}, {[]api.Dem{}, periodic{1, 0}}, {of(1), periodic{1, 0}}, {of(7), periodic{7, 0}}, {of(6, 10), periodic{30, 0}}, {of(4, 6, 10), periodic{60, 0}},
		{of(8, 4, 2, 8), periodic{8, 0}}, {of(1 << 20), periodic{1 << 20, 0}}, {of(1<<20 - 1), periodic{1<<20 - 1, 0}}, {of(1<<20 + 1), over}, {of(1 << 21), over}, {of(mostT), over},
		{of(1024, 1023), periodic{1024 * 1023, 0}}, {of(1024, 1025), over}, {of(1025, 1024, 1), over}, {of(1<<20, 3), over}, {of(3, 1<<20), over}, {of(1<<20, 1<<19), periodic{1 << 20, 0}},
		{of(1<<10, 1<<20), periodic{1 << 20, 0}}, {of(1<<20+1, 1, 1), over}, {of(1, 1, 1<<20+1), over},
		{of(mostT, mostT-1, mostT-3, mostT-5), over}, {of(1<<29+1, 1<<29-1, 1<<29+3, 1<<29-3, 2), over}, {of(2, 3, 5, 7, 11, 13, 17), periodic{510510, 0}}, {of(2, 3, 5, 7, 11, 13, 17, 19), over},
		{of(1<<20, 2, 1<<21), over}, {alike(64, dem(mostC, 1, 1<<20)), periodic{1 << 20, 0}}, {alike(64, dem(0, 9, mostT)), over},
		{[]api.Dem{dem(0, 1, 6), dem(mostC, 10, 10)}, periodic{30, 0}},
	} {
		is(t, fmt.Sprintf("Period(%v)", x.l), period(x.l), x.want)
		if x.want == over {
			is(t, fmt.Sprintf("Load(%v)", x.l), load(x.l), loaded{0, 0, int(api.ErrOver)})
		}
	}
}

// P11.2: a period's work, on both sides of 2^62, and where it would wrap.
func TestLoad(t *testing.T) {
	full, over := dem(mostC, 1, 1), loaded{0, 0, int(api.ErrOver)}
	whole := dem(0, 1<<20, 1<<20)
	for _, x := range []struct {
		l    []api.Dem
		want loaded
	}{
		{nil, loaded{0, 1, 0}}, {[]api.Dem{}, loaded{0, 1, 0}}, {[]api.Dem{dem(0, 1, 1)}, loaded{0, 1, 0}}, {[]api.Dem{dem(2, 4, 5)}, loaded{2, 5, 0}},
		{[]api.Dem{dem(2, 3, 6), dem(3, 8, 10)}, loaded{19, 30, 0}}, {[]api.Dem{dem(9, 4, 4)}, loaded{9, 4, 0}}, {[]api.Dem{dem(1, 2, 4), dem(2, 6, 6), dem(5, 1, 12)}, loaded{12, 12, 0}},
		{[]api.Dem{dem(1, 1, 1), dem(1, 2, 2), dem(1, 1, 3)}, loaded{11, 6, 0}},
		{[]api.Dem{full, whole}, loaded{1 << 60, 1 << 20, 0}},
		{append(alike(3, full), whole), loaded{3 << 60, 1 << 20, 0}},
		{append(alike(4, full), whole), loaded{mostWork, 1 << 20, 0}},
		{append(alike(4, full), whole, whole), loaded{mostWork, 1 << 20, 0}},
		{append(alike(4, full), dem(1, 9, 1<<20)), over},
		{append([]api.Dem{dem(1, 9, 1<<20)}, alike(4, full)...), over},
		{append(alike(4, full), dem(1, 9, 1<<20), whole), over},
		{append(alike(3, full), dem(mostC-1, 1, 1), dem(1<<20, 5, 1<<20)), loaded{mostWork, 1 << 20, 0}},
		{append(alike(3, full), dem(mostC-1, 1, 1), dem(1<<20-1, 5, 1<<20)), loaded{mostWork - 1, 1 << 20, 0}},
		{append(alike(3, full), dem(mostC-1, 1, 1), dem(1<<20+1, 5, 1<<20)), over},
		{append(alike(5, full), whole), over}, {append(alike(8, full), whole), over}, {append(alike(16, full), whole), over}, {append(alike(63, full), whole), over},
		{append(alike(16, full), whole, dem(5, 9, 1<<20)), over},
		{alike(64, dem(mostC, 1<<20, 1<<20)), loaded{1 << 46, 1 << 20, 0}},
	} {
		is(t, fmt.Sprintf("Load(%v)", x.l), load(x.l), x.want)
	}
}

// P11.2: drawn demands: the period is the least that all divide, and its work is what one counts job by job.
func TestDrawnLoad(t *testing.T) {
	next := drawer()
	for range 2000 {
		l := drawn(next, 5, 1+next(12))
		p, work := int64(1), int64(0)
		for slices.ContainsFunc(l, func(d api.Dem) bool { return p%d.T != 0 }) {
			p++
		}
		for _, d := range l {
			for release := int64(0); release < p; release += d.T {
				work += d.C
			}
		}
		is(t, fmt.Sprintf("Period(%v)", l), period(l), periodic{p, 0})
		is(t, fmt.Sprintf("Load(%v)", l), load(l), loaded{work, p, 0})
	}
}

// P11.3: slack, by hand.
func TestSlackByHand(t *testing.T) {
	two := []api.Dem{dem(2, 3, 6), dem(3, 8, 10)}
	idle := []api.Dem{dem(0, 5, 10), dem(3, 2, 10)}
	for _, x := range []struct {
		l        []api.Dem
		from, to int64
		want     answer
	}{
		{two, 0, 10, answer{1, true}}, {two, 4, 8, answer{}}, {two, 4, 9, answer{3, true}}, {two, 9, 10, answer{2, true}}, {two, 10, 16, answer{6, true}},
		{two, 3, 4, answer{1, true}}, {two, 3, 3, answer{}}, {two, 2, 3, answer{}}, {two, 0, 3, answer{}}, {two, 0, 4, answer{1, true}}, {two, 4, 10, answer{2, true}},
		{two, 8, 9, answer{3, true}}, {two, 9, 9, answer{}}, {two, 10, 9, answer{}}, {two, 10, 0, answer{}}, {two, mostTime, 0, answer{}}, {two, 0, 0, answer{}}, {two, 9, 31, answer{2, true}},
		{nil, 0, 10, answer{}}, {nil, 0, 1 << 20, answer{}}, {[]api.Dem{}, 5, 5, answer{}},
		{idle, 0, 10, answer{-1, true}}, {idle, 3, 10, answer{2, true}}, {idle, 5, 6, answer{2, true}}, {idle, 6, 12, answer{}}, {idle, 5, 13, answer{2, true}}, {idle, 13, 16, answer{9, true}},
		{[]api.Dem{dem(0, 5, 10)}, 0, 6, answer{5, true}}, {[]api.Dem{dem(0, 5, 10)}, 6, 16, answer{15, true}}, {[]api.Dem{dem(0, 1, 1)}, 0, 1, answer{}}, {[]api.Dem{dem(0, 1, 1)}, 0, 2, answer{1, true}},
		{[]api.Dem{dem(1, 1, 1)}, 0, 1 << 20, answer{0, true}}, {[]api.Dem{dem(2, 1, 1)}, 0, 100, answer{-99, true}}, {[]api.Dem{dem(2, 1, 1)}, 0, 1 << 20, answer{1 - 1<<20, true}},
		{[]api.Dem{dem(1, 2, 2)}, 100, 103, answer{50, true}}, {[]api.Dem{dem(6, 6, 6)}, 1, 1000, answer{0, true}}, {[]api.Dem{dem(7, 6, 6)}, 1, 13, answer{-2, true}}, {[]api.Dem{dem(7, 6, 6)}, 1, 12, answer{-1, true}},
		{[]api.Dem{dem(3, 4, 4), dem(3, 4, 4)}, 0, 5, answer{-2, true}}, {alike(64, dem(1, 64, 64)), 0, 65, answer{0, true}}, {alike(64, dem(1, 63, 64)), 0, 65, answer{-1, true}},
	} {
		is(t, fmt.Sprintf("Slack(%v, %d, %d)", x.l, x.from, x.to), told(demand.Slack(x.l, x.from, x.to)), x.want)
	}
}

// P11.3: how far apart times may be, and the last times that may be.
func TestSlackFar(t *testing.T) {
	one, sparse := []api.Dem{dem(1, 1, 1)}, []api.Dem{dem(5, 7, mostT)}
	for _, x := range []struct {
		l        []api.Dem
		from, to int64
		want     answer
	}{
		{one, 0, 1<<20 + 1, answer{}}, {one, 1, 1<<20 + 1, answer{0, true}}, {one, 1, 1<<20 + 2, answer{}}, {one, 5, 1<<20 + 5, answer{0, true}}, {one, 5, 1<<20 + 6, answer{}},
		{sparse, 0, 1 << 20, answer{2, true}}, {sparse, 0, 1<<20 + 1, answer{}}, {sparse, 0, mostTime, answer{}}, {sparse, 8, 1 << 20, answer{}}, {sparse, 7, 1<<20 + 7, answer{2, true}},
		{sparse, mostT, mostT + 8, answer{mostT - 3, true}}, {sparse, mostT, mostT + 7, answer{}}, {sparse, mostTime - mostT, mostTime - mostT + 1<<20, answer{mostTime - mostT + 7 - 5*2048, true}},
		{one, mostTime - 1<<20, mostTime, answer{0, true}}, {one, mostTime - 1<<20 - 1, mostTime, answer{}}, {one, mostTime - 1, mostTime, answer{0, true}},
		{one, mostTime, mostTime, answer{}}, {one, mostTime - 1, mostTime + 1, answer{}}, {one, mostTime, mostTime + 1, answer{}}, {one, -1, 5, answer{}}, {one, mostTime, 5, answer{}},
		{[]api.Dem{dem(0, 1, 1)}, mostTime - 1<<20, mostTime, answer{mostTime - 1<<20, true}}, {[]api.Dem{dem(9, mostT, mostT)}, mostTime - 1, mostTime, answer{}},
		{one, math.MinInt64, math.MaxInt64, answer{}}, {one, math.MaxInt64, math.MinInt64, answer{}}, {one, 5, math.MinInt64, answer{}}, {one, math.MinInt64, 5, answer{}},
	} {
		is(t, fmt.Sprintf("Slack(%v, %d, %d)", x.l, x.from, x.to), told(demand.Slack(x.l, x.from, x.to)), x.want)
	}
}

// P11.3: work that is not told at a deadline: at the first one, at a later one, or only behind all of them.
func TestSlackOfMuch(t *testing.T) {
	full, edge := dem(mostC, 1, 1), int64(1<<22)
	late := []api.Dem{full, dem(1, edge, mostT)}
	stopped := []api.Dem{dem(mostC, 1<<20, 1<<20), dem(1, 2, 3)}
	for _, x := range []struct {
		what     string
		l        []api.Dem
		from, to int64
		want     answer
	}{
		{"up to the last one that is told", []api.Dem{full}, edge - 5, edge + 1, answer{edge - mostWork, true}},
		{"the last one alone", []api.Dem{full}, edge, edge + 1, answer{edge - mostWork, true}},
		{"one too far", []api.Dem{full}, edge - 5, edge + 2, answer{}},
		{"one too far alone", []api.Dem{full}, edge + 1, edge + 2, answer{}},
		{"far too far", []api.Dem{full}, edge + 100, edge + 200, answer{}},
		{"far too far for 64 bits", []api.Dem{full}, 1 << 24, 1<<24 + 5, answer{}},
		{"at the end", []api.Dem{full}, mostTime - 5, mostTime, answer{}},
		{"64 at the end", alike(64, full), mostTime - 1<<20, mostTime, answer{}},
		{"64 up to the last one", alike(64, full), 1<<16 - 1000, 1<<16 + 1, answer{1<<16 - mostWork, true}},
		{"64 and one more", alike(64, full), 1<<16 - 1000, 1<<16 + 2, answer{}},
		{"a little below", late, edge - 5, edge, answer{edge - 1 - (mostWork - mostC), true}},
		{"a little more", late, edge - 5, edge + 1, answer{}},
		{"no deadline where it is too much", alike(8, dem(mostC, 1, 1<<19)), 1 << 39, 1<<39 + 1, answer{}},
		{"of few", stopped, 1 << 40, 1<<40 + 9, answer{1<<40 - (1<<60 + (1<<40-1)/3), true}},
	} {
		is(t, x.what, told(demand.Slack(x.l, x.from, x.to)), x.want)
		is(t, x.what+": the model", modelSlack(x.l, x.from, x.to, anyOf), x.want)
	}
}

// P11.3: drawn demands, between all their first times and some far ones, held against a walk from tick to tick.
func TestDrawnSlack(t *testing.T) {
	next := drawer()
	below := 0
	for range 100 {
		l := drawn(next, 5, 1+next(20))
		for from := range int64(30) {
			for to := range int64(40) {
				got := told(demand.Slack(l, from, to))
				is(t, fmt.Sprintf("Slack(%v, %d, %d)", l, from, to), got, modelSlack(l, from, to, modelOf))
				if got.N < 0 {
					below++
				}
			}
		}
		from := next(mostTime - 100)
		is(t, fmt.Sprintf("Slack(%v, %d, ..)", l, from), told(demand.Slack(l, from, from+100)), modelSlack(l, from, from+100, anyOf))
	}
	if below < 1000 {
		t.Errorf("only %d drawn slacks are below 0", below)
	}
}

// P11.3: slack is what Next and Of say, of long windows too.
func TestSlackIsOf(t *testing.T) {
	next := drawer()
	for range 60 {
		l := drawn(next, 20, 1+next(5000))
		from, width := next(1<<30), next(1<<16)
		if next(3) == 0 {
			from = 0
		}
		var least answer
		at := max(from-1, 0)
		for n, ok := demand.Next(l, at); ok && n < from+width; n, ok = demand.Next(l, n) {
			if work, _ := demand.Of(l, n); !least.OK || n-work < least.N {
				least = answer{n - work, true}
			}
		}
		is(t, fmt.Sprintf("Slack(%v, %d, %d)", l, from, from+width), told(demand.Slack(l, from, from+width)), least)
	}
}

// P1: the most work there may be for a call ends soon: 2^20 deadlines of 64 demands, many times.
func TestEnds(t *testing.T) {
	l := alike(64, dem(1, 1, 1))
	for i := range 10 {
		l[i+1] = dem(0, int64(i+1), 1<<20)
	}
	for from := range int64(5) {
		is(t, "54 of each tick", told(demand.Slack(l, from, from+1<<20)), answer{-53 * (from + 1<<20 - 1), true})
	}
}

// P11.4: a period later there is a period's work more, at any time.
func TestPeriodLater(t *testing.T) {
	next := drawer()
	for range 2000 {
		l := drawn(next, 6, 1+next(12))
		work, p, e := demand.Load(l)
		is(t, fmt.Sprint(l), e, api.OK)
		for range 40 {
			at := next(1<<40) >> next(41)
			now, ok := demand.Of(l, at)
			later, too := demand.Of(l, at+p)
			is(t, fmt.Sprintf("%v at %d and %d later", l, at, p), fmt.Sprint(later-now, ok, too), fmt.Sprint(work, true, true))
		}
	}
}

// R3: what is handed in stays as it is, behind it and in what it is cut from too.
func TestLeftAsItIs(t *testing.T) {
	whole := []api.Dem{dem(9, 9, 9), dem(2, 3, 6), dem(3, 8, 10), dem(1, 7, 8), dem(4, 4, 4)}
	was := slices.Clone(whole)
	l := whole[1:4]
	demand.Check(l)
	demand.Of(l, 50)
	demand.Next(l, 50)
	demand.Last(l, 50)
	demand.Period(l)
	demand.Load(l)
	demand.Slack(l, 0, 100)
	is(t, "demands", whole, was)
}
