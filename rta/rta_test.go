package rta_test

import (
	"fmt"
	"math"
	"math/big"
	"slices"
	"testing"

	"ostinato/api"
	"ostinato/rta"
)

// The longest time, the most work that is told, the greatest work and period of a demand (no more is held either), and how many points are told at most.
const (
	mostTime   = 1 << 31
	mostWork   = 1 << 62
	mostC      = 1 << 40
	mostT      = 1 << 30
	mostPoints = 4096
)

// is holds what was told against what ought to be.
func is(t *testing.T, what string, got, want any) {
	t.Helper()
	if g, w := fmt.Sprintf("%+v", got), fmt.Sprintf("%+v", want); g != w {
		t.Fatalf("%.300s: %.300s, want %.300s", what, g, w)
	}
}

// drawer tells numbers that look drawn, and are the same each time.
func drawer() func(n int64) int64 {
	x := uint64(88172645463325252)
	return func(n int64) int64 {
		x ^= x << 13
		x ^= x >> 7
		x ^= x << 17
		return int64(x % uint64(n))
	}
}

// answer is a number that is told, or none.
type answer struct {
	N  int64
	OK bool
}

func yes(n int64) answer { return answer{n, true} }

var none = answer{}

func work(l []api.Dem, x int64) answer {
	n, ok := rta.Work(l, x)
	return answer{n, ok}
}

func bear(l []api.Dem, most int64) answer {
	n, ok := rta.Bear(l, most)
	return answer{n, ok}
}

// busy asks Fits too, that tells the same.
func busy(t *testing.T, l []api.Dem, held, most int64) answer {
	t.Helper()
	n, ok := rta.Busy(l, held, most)
	if fits := rta.Fits(l, held, most); fits != ok {
		t.Fatalf("Fits(%.300v, %d, %d): %v, but Busy tells %v", l, held, most, fits, ok)
	}
	return answer{n, ok}
}

// dem is a demand, of its C and T; its deadline, that counts for nothing, is the period's end.
func dem(c, t int64) api.Dem { return api.Dem{C: c, D: t, T: t} }

// alike are n of the same demand.
func alike(n int, d api.Dem) []api.Dem { return slices.Repeat([]api.Dem{d}, n) }

// firsts are demands of work 1, of these periods.
func firsts(periods ...int64) []api.Dem {
	var l []api.Dem
	for _, p := range periods {
		l = append(l, dem(1, p))
	}
	return l
}

// modelWork tells the work that may come in x ticks, without an end.
func modelWork(l []api.Dem, x int64) *big.Int {
	sum := new(big.Int)
	for _, d := range l {
		n := x / d.T
		if n*d.T < x {
			n++
		}
		sum.Add(sum, new(big.Int).Mul(big.NewInt(d.C), big.NewInt(n)))
	}
	return sum
}

// modelBusy goes from tick to tick.
func modelBusy(l []api.Dem, held, most int64) answer {
	for x := int64(1); x <= most; x++ {
		if n := modelWork(l, x); n.Add(n, big.NewInt(held)).Cmp(big.NewInt(x)) <= 0 {
			return yes(x)
		}
	}
	return none
}

// stepped goes from each time to what is held, and comes, in it, of work that does not wrap; it tells false second, if that takes too many steps.
func stepped(l []api.Dem, held, most int64) (answer, bool) {
	x := int64(1)
	for range 100000 {
		sum := held
		for _, d := range l {
			sum += d.C * ((x + d.T - 1) / d.T)
		}
		switch {
		case x > most:
			return none, true
		case sum <= x:
			return yes(x), true
		}
		x = sum
	}
	return none, false
}

// runs goes through ticks: all release jobs at 0, T, 2 T, and so on, behind what is held. It tells the first tick's end, up to most, at which nothing of what came ahead of it is left.
func runs(l []api.Dem, held, most int64) answer {
	left := held
	for t := int64(0); t < most; t++ {
		for _, d := range l {
			if t%d.T == 0 {
				left += d.C
			}
		}
		if left = max(left-1, 0); left == 0 {
			return yes(t + 1)
		}
	}
	return none
}

// modelPoints goes from tick to tick.
func modelPoints(l []api.Dem, most int64) []int64 {
	var points []int64
	for x := int64(1); x <= most; x++ {
		if x == most || slices.ContainsFunc(l, func(d api.Dem) bool { return x%d.T == 0 }) {
			points = append(points, x)
		}
	}
	if len(points) > mostPoints {
		return nil
	}
	return points
}

// modelBear tries one number behind the other, of few ticks.
func modelBear(l []api.Dem, most int64) answer {
	told := none
	for held := int64(0); modelBusy(l, held, most).OK; held++ {
		told = yes(held)
	}
	return told
}

// drawn are up to most demands, of periods up to longest, each with up to a share of the time, or now and then more.
func drawn(next func(n int64) int64, most, longest int64) []api.Dem {
	var l []api.Dem
	for range next(most + 1) {
		p := 1 + next(longest)
		d := api.Dem{C: next(2 + p/(1+next(most+1))), D: 1 + next(p), T: p}
		if len(l) > 0 && next(4) == 0 {
			d.T, d.D = l[0].T, l[0].T
		}
		l = append(l, d)
	}
	return l
}

// tight are demands of some periods up to longest that leave a little of the time, none, or less than none.
func tight(next func(n int64) int64, most, longest int64) []api.Dem {
	l := []api.Dem{dem(0, 1+next(longest))}
	for range next(most) {
		l = append(l, dem(1, 1+next(longest)))
	}
	used := new(big.Rat)
	for _, d := range l {
		used.Add(used, big.NewRat(d.C, d.T))
	}
	for range 200 {
		i := next(int64(len(l)))
		more := new(big.Rat).Add(used, big.NewRat(1, l[i].T))
		if more.Cmp(big.NewRat(1, 1)) <= 0 || next(50) == 0 {
			used = more
			l[i].C++
		}
	}
	return l
}

// refused holds that nothing is told of these demands, whatever else is asked.
func refused(t *testing.T, what string, l []api.Dem) {
	t.Helper()
	for _, x := range []int64{1, 9, mostTime, 0, -1, mostTime + 1} {
		what := fmt.Sprint(what, ", ", x)
		is(t, what+": work", work(l, x), none)
		is(t, what+": busy", busy(t, l, 0, x), none)
		is(t, what+": held", busy(t, l, 3, x), none)
		is(t, what+": bear", bear(l, x), none)
		is(t, what+": points", len(rta.Points(l, x)), 0)
	}
}

// P13.1 to P13.3: which demands may be, on both sides of each edge.
func TestDemandsThatMayBe(t *testing.T) {
	good := api.Dem{C: 1, D: 4, T: 5}
	for _, l := range [][]api.Dem{
		nil, {}, {good}, alike(64, dem(1, 64)), {dem(0, 1)}, {{C: 0, D: 1, T: mostT}}, {{C: 0, D: mostT, T: mostT}}, {dem(1, 1)}, {{C: 5, D: 1, T: 5}}, {{C: 5, D: 5, T: 5}},
	} {
		is(t, fmt.Sprint(l, ": work"), work(l, 7).OK, true)
		is(t, fmt.Sprint(l, ": busy"), busy(t, l, 0, 64).OK, true)
		is(t, fmt.Sprint(l, ": bear"), bear(l, 64).OK, true)
		is(t, fmt.Sprint(l, ": points"), len(rta.Points(l, 64)) > 0, true)
	}
	is(t, "of the most work", work([]api.Dem{dem(mostC, 1)}, 7), yes(7*mostC))
	is(t, "points of the most work", rta.Points([]api.Dem{dem(mostC, 2)}, 5), []int64{2, 4, 5})
	for _, d := range []api.Dem{
		{}, {C: 1, D: 0, T: 5}, {C: 1, D: 6, T: 5}, {C: -1, D: 4, T: 5}, {C: mostC + 1, D: 4, T: 5}, {C: 1, D: 4, T: mostT + 1}, {C: 1, D: 0, T: 0}, {C: 0, D: -5, T: -5}, {C: 0, D: 1, T: 0}, {C: 1, D: -1, T: 5},
		{C: math.MinInt64, D: 4, T: 5}, {C: math.MaxInt64, D: 4, T: 5}, {C: 1, D: math.MinInt64, T: 5}, {C: 1, D: 4, T: math.MinInt64}, {C: 1, D: 4, T: math.MaxInt64}, {C: 1, D: math.MaxInt64, T: 5},
		{C: 1<<32 + 1, D: 1 << 32, T: 1 << 32}, {C: math.MinInt64, D: math.MinInt64, T: math.MinInt64}, {C: math.MaxInt64, D: math.MaxInt64, T: math.MaxInt64},
	} {
		refused(t, fmt.Sprint(d), []api.Dem{d})
		refused(t, fmt.Sprint(d, " ahead"), []api.Dem{d, good})
		refused(t, fmt.Sprint(d, " between"), []api.Dem{good, d, dem(0, 9)})
		refused(t, fmt.Sprint(d, " behind"), append(alike(63, dem(0, 9)), d))
	}
	refused(t, "65", alike(65, good))
	refused(t, "65 of nothing", alike(65, dem(0, 9)))
	refused(t, "2^20", alike(1<<20, dem(0, 9)))
}

// P13.1 to P13.3: which times, and what held, may be asked about, on both sides of each edge.
func TestTimesThatMayBe(t *testing.T) {
	one := []api.Dem{dem(1, mostT)}
	is(t, "work in 1", work(one, 1), yes(1))
	is(t, "work in 2^31", work(one, mostTime), yes(2))
	is(t, "busy up to 1", busy(t, one, 0, 1), yes(1))
	is(t, "busy up to 2^31", busy(t, one, 0, mostTime), yes(1))
	is(t, "bear up to 1", bear(one, 1), yes(0))
	is(t, "bear up to 2^31", bear(one, mostTime), yes(mostTime-2))
	is(t, "points up to 1", rta.Points(one, 1), []int64{1})
	is(t, "points up to 2^31", rta.Points(one, mostTime), []int64{mostT, mostTime})
	for _, l := range [][]api.Dem{nil, {dem(0, 1)}, one, {dem(0, mostT)}, {dem(1, 3), dem(2, 7)}, {dem(9, 4)}} {
		for _, x := range []int64{0, -1, -9, mostTime + 1, mostTime + 9, 1 << 32, 1<<32 + 9, math.MinInt64, math.MinInt64 + 9, math.MaxInt64, math.MaxInt64 - 9} {
			what := fmt.Sprint(l, x)
			is(t, what+": work", work(l, x), none)
			is(t, what+": busy", busy(t, l, 0, x), none)
			is(t, what+": held", busy(t, l, -1, x), none)
			is(t, what+": bear", bear(l, x), none)
			is(t, what+": points", len(rta.Points(l, x)), 0)
		}
		for _, held := range []int64{-1, -9, mostC + 1, mostC + 9, 1 << 62, math.MinInt64, math.MinInt64 + 9, math.MaxInt64, math.MaxInt64 - 9} {
			for _, x := range []int64{1, 9, mostTime} {
				is(t, fmt.Sprint(l, held, x), busy(t, l, held, x), none)
			}
		}
		is(t, fmt.Sprint(l, " with 2^40 held"), busy(t, l, mostC, mostTime), none)
	}
	is(t, "nothing held up to 2^31", busy(t, nil, 0, mostTime), yes(1))
	is(t, "2^31 held", busy(t, nil, mostTime, mostTime), yes(mostTime))
	is(t, "a tick more than 2^31 held", busy(t, nil, mostTime+1, mostTime), none)
}

// P13.1 to P13.3: by hand; the chapter's examples first.
func TestByHand(t *testing.T) {
	two := []api.Dem{{C: 1, D: 2, T: 4}, {C: 2, D: 6, T: 6}}
	three := []api.Dem{dem(1, 4), dem(2, 6), dem(3, 12)}
	for _, x := range []struct {
		l          []api.Dem
		held, most int64
		want       answer
	}{
		{two, 0, 9, yes(3)}, {two, 2, 9, yes(6)},
		{two, 0, 3, yes(3)}, {two, 0, 2, none}, {two, 1, 4, yes(4)}, {two, 1, 3, none}, {two, 2, 5, none}, {two, 2, 6, yes(6)}, {two, 3, 9, none}, {two, 3, 11, yes(10)}, {two, 4, 99, yes(11)}, {two, 5, 99, yes(12)}, {two, 6, 17, yes(16)},
		{three, 0, 12, yes(10)}, {three, 0, 9, none}, {three, 2, 12, yes(12)}, {three, 3, 12, none}, {three, 0, 10, yes(10)},
		{nil, 0, 1, yes(1)}, {nil, 1, 1, yes(1)}, {nil, 2, 1, none}, {nil, 2, 2, yes(2)}, {nil, 7, 9, yes(7)}, {[]api.Dem{}, 9, 9, yes(9)}, {[]api.Dem{}, 10, 9, none},
		{[]api.Dem{dem(0, 1)}, 0, 1, yes(1)}, {[]api.Dem{dem(0, 1)}, 5, 9, yes(5)}, {alike(64, dem(0, 3)), 5, 9, yes(5)},
		{[]api.Dem{dem(1, 1)}, 0, 1, yes(1)}, {[]api.Dem{dem(1, 1)}, 1, mostTime, none}, {[]api.Dem{dem(2, 1)}, 0, mostTime, none}, {[]api.Dem{dem(5, 5)}, 0, 4, none}, {[]api.Dem{dem(5, 5)}, 0, 5, yes(5)}, {[]api.Dem{dem(5, 5)}, 1, mostTime, none}, {[]api.Dem{dem(6, 5)}, 0, mostTime, none},
		{firsts(2, 2), 0, 9, yes(2)}, {firsts(2, 2), 1, mostTime, none}, {firsts(2, 3, 6), 0, 9, yes(6)}, {firsts(2, 3, 6), 0, 5, none}, {firsts(2, 3), 0, 9, yes(2)}, {firsts(2, 3), 1, 9, yes(6)}, {firsts(2, 3, 5), 0, mostTime, none}, {firsts(2, 3, 7), 0, 9, yes(6)}, {firsts(2, 3, 7), 1, 99, yes(42)}, {firsts(2, 3, 7), 1, 41, none},
		{alike(64, dem(1, 64)), 0, 64, yes(64)}, {alike(64, dem(1, 64)), 0, 63, none}, {alike(64, dem(1, 64)), 1, mostTime, none}, {alike(63, dem(1, 64)), 1, 99, yes(64)}, {alike(63, dem(1, 64)), 2, 128, yes(128)}, {alike(63, dem(1, 64)), 2, 127, none},
	} {
		what := fmt.Sprintf("Busy(%v, %d, %d)", x.l, x.held, x.most)
		is(t, what, busy(t, x.l, x.held, x.most), x.want)
		if x.most < mostTime {
			is(t, what+": the model", modelBusy(x.l, x.held, x.most), x.want)
			is(t, what+": what runs", runs(x.l, x.held, x.most), x.want)
		}
	}
	for _, x := range []struct {
		l       []api.Dem
		x, want int64
	}{
		{two, 1, 3}, {two, 4, 3}, {two, 5, 4}, {two, 6, 4}, {two, 7, 6}, {three, 7, 9}, {three, 12, 10}, {three, 13, 16}, {nil, 1, 0}, {nil, mostTime, 0}, {[]api.Dem{}, 7, 0}, {[]api.Dem{dem(0, 3)}, 9, 0}, {[]api.Dem{dem(3, 1)}, 9, 27}, {alike(64, dem(3, 2)), 3, 384},
	} {
		is(t, fmt.Sprintf("Work(%v, %d)", x.l, x.x), work(x.l, x.x), yes(x.want))
	}
	for _, x := range []struct {
		l    []api.Dem
		most int64
		want answer
	}{
		{two, 9, yes(2)}, {two, 6, yes(2)}, {two, 5, yes(1)}, {two, 3, yes(0)}, {two, 2, none}, {two, 10, yes(3)}, {two, 11, yes(4)}, {two, 12, yes(5)}, {three, 12, yes(2)}, {three, 11, yes(1)}, {three, 10, yes(0)}, {three, 9, none},
		{nil, 1, yes(1)}, {nil, mostTime, yes(mostTime)}, {[]api.Dem{dem(0, 5)}, 7, yes(7)}, {[]api.Dem{dem(1, 1)}, 7, yes(0)}, {[]api.Dem{dem(2, 1)}, 7, none}, {[]api.Dem{dem(5, 5)}, 4, none}, {[]api.Dem{dem(5, 5)}, 5, yes(0)}, {[]api.Dem{dem(6, 5)}, 4000, none}, {[]api.Dem{dem(5, 9)}, 8, yes(3)},
	} {
		is(t, fmt.Sprintf("Bear(%v, %d)", x.l, x.most), bear(x.l, x.most), x.want)
	}
}

// P13.1: work up to 2^62 is told, and no more, though it wraps.
func TestMuchWork(t *testing.T) {
	full := dem(mostC, 1)
	for _, x := range []struct {
		what string
		l    []api.Dem
		x    int64
		want answer
	}{
		{"2^62", []api.Dem{full}, 1 << 22, yes(mostWork)},
		{"2^62, and nothing", []api.Dem{full, dem(0, 1)}, 1 << 22, yes(mostWork)},
		{"2^62 + 1", []api.Dem{full, dem(1, mostT)}, 1 << 22, none},
		{"1 + 2^62", []api.Dem{dem(1, mostT), full}, 1 << 22, none},
		{"2^62 + 2^40", []api.Dem{full}, 1<<22 + 1, none},
		{"2^62 less 2^40", []api.Dem{full}, 1<<22 - 1, yes(mostWork - mostC)},
		{"2^62 less 1", []api.Dem{full, dem(mostC-1, mostT)}, 1<<22 - 1, yes(mostWork - 1)},
		{"2^62 of 64", alike(64, full), 1 << 16, yes(mostWork)},
		{"2^62 and 2^46", alike(64, full), 1<<16 + 1, none},
		{"2^63", []api.Dem{full}, 1 << 23, none},
		{"2^63 of two", alike(2, full), 1 << 22, none},
		{"2^64", []api.Dem{full}, 1 << 24, none},
		{"2^64 + 7", []api.Dem{full, dem(7, mostT)}, 1 << 24, none},
		{"2^64 of four", alike(4, full), 1 << 22, none},
		{"2^64 of 64", alike(64, full), 1 << 18, none},
		{"2^71", []api.Dem{full}, mostTime, none},
		{"2^77", alike(64, full), mostTime, none},
		{"2^71 behind 3", []api.Dem{dem(3, mostT), full}, mostTime, none},
		{"2^71 ahead of 3", []api.Dem{full, dem(3, mostT)}, mostTime, none},
		{"2^41", []api.Dem{dem(mostC, mostT)}, mostTime, yes(2 * mostC)},
		{"a job more", []api.Dem{dem(mostC, mostT-1)}, mostTime, yes(3 * mostC)},
	} {
		is(t, x.what, work(x.l, x.x), x.want)
		if sum := modelWork(x.l, x.x); x.want.OK != (sum.Cmp(big.NewInt(mostWork)) <= 0) {
			t.Errorf("%s: the model tells %v", x.what, sum)
		}
		is(t, x.what+": busy", busy(t, x.l, 0, x.x), none)
		is(t, x.what+": busy behind what is held", busy(t, x.l, mostC, x.x), none)
	}
}

// P13.1: drawn work of far times, held against numbers without an end.
func TestDrawnWork(t *testing.T) {
	next := drawer()
	var told, untold int
	for range 50000 {
		var l []api.Dem
		for range next(6) {
			p := 1 + next(mostT>>next(30))
			l = append(l, api.Dem{C: next(mostC>>next(12) + 1), D: 1 + next(p), T: p})
		}
		x := 1 + next(mostTime>>(next(31)/(1+next(9))))
		if len(l) > 0 && next(2) == 0 {
			// Just at a release, or behind one.
			x = min(max(x-x%l[0].T+next(3)-1, 1), mostTime)
		}
		want := none
		if sum := modelWork(l, x); sum.Cmp(big.NewInt(mostWork)) <= 0 {
			want = yes(sum.Int64())
			told++
		} else {
			untold++
		}
		is(t, fmt.Sprintf("Work(%v, %d)", l, x), work(l, x), want)
	}
	if min(told, untold) < 1000 {
		t.Errorf("drawn too seldom: %d are told, %d not", told, untold)
	}
}

// P13.2: drawn demands, held against a walk from tick to tick, and against ticks in which jobs run.
func TestDrawnBusy(t *testing.T) {
	next := drawer()
	var told, untold int
	for range 10000 {
		l, held, most := drawn(next, 5, 1+next(20)), next(12), 1+next(90)
		if next(2) == 0 {
			l = tight(next, 5, 1+next(12))
		}
		want := modelBusy(l, held, most)
		what := fmt.Sprintf("Busy(%v, %d, %d)", l, held, most)
		is(t, what, busy(t, l, held, most), want)
		is(t, what+": what runs", runs(l, held, most), want)
		if want.OK {
			told++
			is(t, what+": up to just that", busy(t, l, held, want.N), want)
			if want.N > 1 {
				is(t, what+": up to a tick less", busy(t, l, held, want.N-1), none)
			}
		} else {
			untold++
		}
	}
	if min(told, untold) < 2000 {
		t.Errorf("drawn too seldom: %d are told, %d not", told, untold)
	}
}

// P13.2: drawn demands of long busy times, held against going from each time to the work that comes in it.
func TestDrawnBusyFar(t *testing.T) {
	next := drawer()
	var far, untold int
	for i := range 6000 {
		longest := []int64{30, 1000, 1 << 16, mostT}[i%4]
		l := drawn(next, 8, longest)
		if next(2) == 0 {
			l = tight(next, 8, min(longest, 200))
		}
		if next(3) == 0 {
			p := mostT - next(mostT/2)
			l = append(l, dem(next(p>>next(30)), p))
		}
		held, most := next(mostTime>>next(31)), mostTime-next(mostTime>>next(31))
		for j := range l {
			l[j].C = min(l[j].C, l[j].T+1)
		}
		want, ok := stepped(l, held, most)
		got := busy(t, l, held, most)
		if !ok {
			continue
		}
		is(t, fmt.Sprintf("Busy(%v, %d, %d)", l, held, most), got, want)
		if want.N > 1<<12 {
			far++
			is(t, fmt.Sprintf("Busy(%v, %d), up to just that", l, held), busy(t, l, held, want.N), want)
			is(t, fmt.Sprintf("Busy(%v, %d), up to a tick less", l, held), busy(t, l, held, want.N-1), none)
		}
		if !want.OK {
			untold++
		}
	}
	if min(far, untold) < 500 {
		t.Errorf("drawn too seldom: %d are far, %d untold", far, untold)
	}
}

// P13.2 and P1: busy times that are far, or are none, end soon, though all the time is used, or nearly all of it.
func TestBusyEnds(t *testing.T) {
	// Of works of 1, by these periods, only one part of 3263442 of the time is left.
	little := firsts(2, 3, 7, 43, 1807)
	for _, x := range []struct {
		what       string
		l          []api.Dem
		held, most int64
		want       answer
	}{
		{"all the time", []api.Dem{dem(1, 1)}, 1, mostTime, none},
		{"all the time of 64", alike(64, dem(1, 64)), 1, mostTime, none},
		{"all the time, and others of no work", append(alike(63, dem(0, 1)), dem(1, 1)), 1, mostTime, none},
		{"more than all the time", alike(64, dem(1, 63)), 0, mostTime, none},
		{"far more than all the time", alike(64, dem(mostC, 1)), mostC, mostTime, none},
		{"all the time but the last tick of a period", []api.Dem{dem(mostT-1, mostT)}, 1, mostTime, yes(mostT)},
		{"all of it but the last tick of two periods", []api.Dem{dem(mostT-1, mostT)}, 2, mostTime, yes(mostTime)},
		{"a tick more", []api.Dem{dem(mostT-1, mostT)}, 3, mostTime, none},
		{"all of a period", []api.Dem{dem(mostT, mostT)}, 0, mostTime, yes(mostT)},
		{"nearly all", little, 0, mostTime, yes(1806)},
		{"nearly all, held", little, 1, mostTime, yes(3263442)},
		{"nearly all, held for long", little, 600, mostTime, yes(600 * 3263442)},
		{"nearly all, held for too long", little, 659, mostTime, none},
		{"all", append(slices.Clone(little), dem(1, 3263442)), 0, mostTime, yes(3263442)},
		{"all, up to a tick less", append(slices.Clone(little), dem(1, 3263442)), 0, 3263441, none},
		{"all, held", append(slices.Clone(little), dem(1, 3263442)), 1, mostTime, none},
		{"nearly all, behind much work", append(slices.Clone(little), dem(300, mostT)), 0, mostTime, yes(300 * 3263442)},
		{"nearly all, the longest first", append([]api.Dem{dem(300, mostT)}, little...), 0, mostTime, yes(300 * 3263442)},
		{"all up to 2^31", append(slices.Clone(little), dem(mostT, mostT)), 0, mostTime, none},
	} {
		for range 100 {
			is(t, x.what, busy(t, x.l, x.held, x.most), x.want)
		}
	}
}

// P13.3: points by hand, on both sides of where there are too many.
func TestPoints(t *testing.T) {
	three := []api.Dem{{C: 1, D: 1, T: 4}, {C: 0, D: 2, T: 6}, {C: 9, D: 12, T: 12}}
	for _, x := range []struct {
		l    []api.Dem
		most int64
		want []int64
	}{
		{three, 12, []int64{4, 6, 8, 12}}, {three, 11, []int64{4, 6, 8, 11}}, {three, 13, []int64{4, 6, 8, 12, 13}}, {three, 4, []int64{4}}, {three, 5, []int64{4, 5}}, {three, 3, []int64{3}}, {three, 1, []int64{1}}, {three, 25, []int64{4, 6, 8, 12, 16, 18, 20, 24, 25}},
		{nil, 1, []int64{1}}, {nil, mostTime, []int64{mostTime}}, {[]api.Dem{}, 7, []int64{7}}, {[]api.Dem{dem(0, 1)}, 3, []int64{1, 2, 3}}, {[]api.Dem{dem(9, 1)}, 1, []int64{1}}, {[]api.Dem{dem(1, 9), dem(1, 2)}, 9, []int64{2, 4, 6, 8, 9}}, {alike(64, dem(1, 3)), 7, []int64{3, 6, 7}},
		{[]api.Dem{dem(mostC, mostT)}, mostT, []int64{mostT}}, {[]api.Dem{dem(mostC, mostT)}, mostT + 1, []int64{mostT, mostT + 1}}, {firsts(mostT-1, mostT), mostTime, []int64{mostT - 1, mostT, mostTime - 2, mostTime}},
	} {
		is(t, fmt.Sprintf("Points(%v, %d)", x.l, x.most), rta.Points(x.l, x.most), x.want)
	}
	for _, x := range []struct {
		what string
		l    []api.Dem
		most int64
		want int
	}{
		{"4096", firsts(1), 4096, 4096}, {"4097", firsts(1), 4097, 0}, {"4095", firsts(1), 4095, 4095},
		{"4096 of 64", alike(64, dem(0, 1)), 4096, 4096}, {"4097 of 64", alike(64, dem(0, 1)), 4097, 0},
		{"4096, and a longer period", firsts(1, 5000), 4096, 4096}, {"4096 and most", firsts(2), 8193, 0}, {"4096 with most", firsts(2), 8192, 4096}, {"4095 and most", firsts(2), 8191, 4096},
		{"of two, some twice", firsts(2, 3), 6144, 4096}, {"of two, one more", firsts(2, 3), 6145, 0}, {"of two, one less", firsts(2, 3), 6143, 4096}, {"of two, two less", firsts(2, 3), 6142, 4095}, {"of two, the longer first", firsts(3, 2), 6144, 4096}, {"of two, the longer first, one more", firsts(3, 2), 6145, 0},
		{"up to 2^31", firsts(1 << 19), mostTime, 4096}, {"up to 2^31, one more", firsts(1<<19 - 1), mostTime, 0}, {"up to 2^31, at last one more", firsts(1<<19, mostT-1), mostTime, 0}, {"up to 2^31, none more", firsts(1<<19, mostT), mostTime, 4096},
		{"2^31", firsts(1), mostTime, 0}, {"2^31 of 64", alike(64, dem(0, 1)), mostTime, 0}, {"2^31, the longest first", firsts(mostT, 1<<20, 1), mostTime, 0},
	} {
		got := rta.Points(x.l, x.most)
		is(t, x.what, len(got), x.want)
		if x.most < 1<<20 {
			is(t, x.what+": the model", got, modelPoints(x.l, x.most))
		}
		is(t, x.what+": rising", slices.IsSortedFunc(got, func(a, b int64) int { return int(a - b - 1) }), true)
		if x.want > 0 {
			is(t, x.what+": the last one", got[x.want-1], x.most)
		}
	}
}

// P13.3: where there are too many points, nothing is borne, though there is a busy time.
func TestTooManyPoints(t *testing.T) {
	for _, x := range []struct {
		what string
		l    []api.Dem
		most int64
		want answer
	}{
		{"4096", []api.Dem{dem(0, 1)}, 4096, yes(4096)}, {"4097", []api.Dem{dem(0, 1)}, 4097, none},
		{"4096 of 64", alike(64, dem(0, 1)), 4096, yes(4096)}, {"4097 of 64", alike(64, dem(0, 1)), 4097, none},
		{"4096 of much work", []api.Dem{dem(mostC, 1)}, 4096, none},
		{"4096 up to 2^31", []api.Dem{dem(1, 1<<19)}, mostTime, yes(mostTime - 4096)}, {"one more", []api.Dem{dem(1, 1<<19-1)}, mostTime, none},
		{"2^31", []api.Dem{dem(1, 1)}, mostTime, none}, {"2^31 of 64", alike(64, dem(0, 1)), mostTime, none},
	} {
		is(t, x.what, bear(x.l, x.most), x.want)
		is(t, x.what+": is it busy", busy(t, x.l, 0, x.most).OK, x.l[0].C < mostC)
	}
}

// P13.3: drawn points, and what is borne, held against a walk from tick to tick, and trying each number.
func TestDrawnBear(t *testing.T) {
	next := drawer()
	var told, untold int
	for range 10000 {
		l, most := drawn(next, 5, 1+next(20)), 1+next(60)
		want := modelBear(l, most)
		is(t, fmt.Sprintf("Points(%v, %d)", l, most), rta.Points(l, most), modelPoints(l, most))
		is(t, fmt.Sprintf("Bear(%v, %d)", l, most), bear(l, most), want)
		if want.OK {
			told++
		} else {
			untold++
		}
	}
	if min(told, untold) < 1000 {
		t.Errorf("drawn too seldom: %d are told, %d not", told, untold)
	}
}

// P13.3: drawn points of long rows, some of them just too long, held against a walk from tick to tick.
func TestDrawnPoints(t *testing.T) {
	next := drawer()
	var told, untold int
	for range 300 {
		var l []api.Dem
		for range 1 + next(4) {
			l = append(l, dem(next(9), 1+next(12)))
		}
		most := 1 + next(30000)
		want := modelPoints(l, most)
		is(t, fmt.Sprintf("Points(%v, %d)", l, most), rta.Points(l, most), want)
		if want != nil {
			told++
		} else {
			untold++
		}
	}
	if min(told, untold) < 50 {
		t.Errorf("drawn too seldom: %d are told, %d not", told, untold)
	}
}

// P13.4: what is borne fits, and a tick more does not; if nothing is, nothing fits.
func TestWhatIsBorneFits(t *testing.T) {
	next := drawer()
	var told, untold int
	for i := range 5000 {
		longest, most := int64(300), 1+next(700)
		if i%2 == 0 {
			longest, most = mostT, mostTime-next(mostTime>>next(20))
		}
		l := drawn(next, 6, longest)
		if len(rta.Points(l, most)) == 0 {
			continue
		}
		what := fmt.Sprintf("Bear(%v, %d)", l, most)
		if borne := bear(l, most); borne.OK {
			told++
			is(t, what+" fits", rta.Fits(l, borne.N, most), true)
			is(t, what+" and 1 fits", rta.Fits(l, borne.N+1, most), false)
			is(t, what+" less some fits", rta.Fits(l, next(borne.N+1), most), true)
			is(t, what+" and more fits", rta.Fits(l, borne.N+1+next(mostC), most), false)
		} else {
			untold++
			is(t, what+": nothing held fits", rta.Fits(l, 0, most), false)
		}
	}
	if min(told, untold) < 500 {
		t.Errorf("drawn too seldom: %d are told, %d not", told, untold)
	}
}

// P13.4: with more work, or more held, no busy time is shorter, none comes where there was none, no more is borne, and no less work comes.
func TestMoreIsNotShorter(t *testing.T) {
	next := drawer()
	var longer, gone int
	for range 20000 {
		l, held, most := drawn(next, 4, 1+next(20)), next(9), 1+next(300)
		more, alsoHeld := slices.Clone(l), held
		switch {
		case next(3) == 0:
			alsoHeld += 1 + next(9)
		case next(2) == 0 && len(l) > 0:
			more[next(int64(len(l)))].C += 1 + next(3)
		default:
			more = slices.Insert(more, int(next(int64(len(l)+1))), dem(next(4), 1+next(40)))
		}
		what := fmt.Sprintf("of %v, %d, and more: %v, %d, up to %d", l, held, more, alsoHeld, most)
		before, after := busy(t, l, held, most), busy(t, more, alsoHeld, most)
		is(t, what+": shorter", after.OK && (!before.OK || after.N < before.N), false)
		is(t, what+": more is borne", bear(more, most).OK && bear(more, most).N > bear(l, most).N, false)
		is(t, what+": less work", work(more, most).N < work(l, most).N, false)
		switch {
		case after.OK && after.N > before.N:
			longer++
		case before.OK && !after.OK:
			gone++
		}
	}
	if min(longer, gone) < 500 {
		t.Errorf("drawn too seldom: %d are longer, %d gone", longer, gone)
	}
}

// P13.1 to P13.3: deadlines, and the order of the demands, count for nothing.
func TestDeadlinesAndOrderCountForNothing(t *testing.T) {
	next := drawer()
	for range 5000 {
		l, held, most := drawn(next, 5, 1+next(30)), next(12), 1+next(200)
		turned := slices.Clone(l)
		slices.Reverse(turned)
		for i := range turned {
			turned[i].D = 1 + next(turned[i].T)
		}
		what := fmt.Sprintf("of %v and %v, %d, %d", l, turned, held, most)
		is(t, what+": work", work(turned, most), work(l, most))
		is(t, what+": busy", busy(t, turned, held, most), busy(t, l, held, most))
		is(t, what+": points", rta.Points(turned, most), rta.Points(l, most))
		is(t, what+": bear", bear(turned, most), bear(l, most))
	}
}

// R3: what is handed in stays as it is, behind it and in what it is cut from too; points are the caller's.
func TestLeftAsItIs(t *testing.T) {
	demands := []api.Dem{{C: 9, D: 9, T: 9}, {C: 3, D: 9, T: 12}, {C: 2, D: 4, T: 6}, {C: 1, D: 7, T: 8}, {C: 4, D: 4, T: 4}}
	l := slices.Clone(demands)
	is(t, "work", work(l[1:3], 9), yes(7))
	is(t, "busy", busy(t, l[1:3], 1, 12), yes(6))
	is(t, "bear", bear(l[1:3], 12), yes(5))
	points := rta.Points(l[1:3], 12)
	is(t, "points", points, []int64{6, 12})
	points[0], points[1] = 1, 2
	is(t, "points once more", rta.Points(l[1:3], 12), []int64{6, 12})
	is(t, "demands", l, demands)
}
