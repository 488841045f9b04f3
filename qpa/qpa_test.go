package qpa_test

import (
	"fmt"
	"math"
	"math/big"
	"slices"
	"testing"

	"ostinato/api"
	"ostinato/qpa"
)

// The greatest period of all, the greatest work and period of a demand, the most work that is told.
const (
	mostP    = 1 << 20
	mostC    = 1 << 40
	mostT    = 1 << 30
	mostWork = 1 << 62
)

// is holds what was told against what ought to be.
func is(t *testing.T, what string, got, want any) {
	t.Helper()
	if g, w := fmt.Sprintf("%+v", got), fmt.Sprintf("%+v", want); g != w {
		t.Fatalf("%.300s: %.300s, want %.300s", what, g, w)
	}
}

// drawer tells numbers that look drawn, and are the same each time.
func drawer() func(n int64) int64 {
	x := uint64(88172645463325252)
	return func(n int64) int64 {
		x ^= x << 13
		x ^= x >> 7
		x ^= x << 17
		return int64(x % uint64(n))
	}
}

// answer is a time that is told, or none.
type answer struct {
	N  int64
	OK bool
}

func yes(n int64) answer { return answer{n, true} }

var none = answer{}

// verdict is what Test, Miss and Room tell of the same demands and blocks.
type verdict struct {
	Test       int
	Miss, Room answer
}

// The verdicts: why nothing is told; the least deadline that is missed; how much room there is.
func refusal(e api.Errno) verdict { return verdict{int(e), none, none} }
func late(t int64) verdict        { return verdict{int(api.ErrLoad), yes(t), none} }
func room(n int64) verdict        { return verdict{0, none, yes(n)} }

func told(l []api.Dem, b []api.Block) verdict {
	miss, missed := qpa.Miss(l, b)
	least, there := qpa.Room(l, b)
	return verdict{int(qpa.Test(l, b)), answer{miss, missed}, answer{least, there}}
}

// dem is a demand, of its C, D and T.
func dem(c, d, t int64) api.Dem { return api.Dem{C: c, D: d, T: t} }

// alike are n of the same demand, held n of the same block.
func alike(n int, d api.Dem) []api.Dem { return slices.Repeat([]api.Dem{d}, n) }

func held(n int, d, b int64) []api.Block { return slices.Repeat([]api.Block{{D: d, B: b}}, n) }

// modelAt tells what is held at t out of the row of all that is.
func modelAt(b []api.Block, t int64) int64 {
	var all []int64
	for _, x := range b {
		if t < x.D {
			all = append(all, x.B)
		}
	}
	if len(all) == 0 {
		return 0
	}
	slices.Sort(all)
	return all[len(all)-1]
}

// modelDue tells the work due by t, without an end, and whether t is a deadline.
func modelDue(l []api.Dem, t int64) (*big.Int, bool) {
	work, deadline := new(big.Int), false
	for _, d := range l {
		if t >= d.D {
			work.Add(work, new(big.Int).Mul(big.NewInt(d.C), big.NewInt((t-d.D)/d.T+1)))
			deadline = deadline || (t-d.D)%d.T == 0
		}
	}
	return work, deadline
}

// modelPeriod goes from one end of the longest period to the next, till all end; it tells 0, if that is above 2^20.
func modelPeriod(l []api.Dem) int64 {
	longest := int64(1)
	for _, d := range l {
		longest = max(longest, d.T)
	}
	for p := longest; p <= mostP; p += longest {
		if !slices.ContainsFunc(l, func(d api.Dem) bool { return p%d.T != 0 }) {
			return p
		}
	}
	return 0
}

// mayBe tells whether demands and blocks may be like that.
func mayBe(l []api.Dem, b []api.Block) bool {
	for _, d := range l {
		if d.C < 0 || d.C > mostC || d.D < 1 || d.D > d.T || d.T > mostT {
			return false
		}
	}
	for _, x := range b {
		if x.D < 1 || x.D > mostP || x.B < 0 || x.B > mostC {
			return false
		}
	}
	return len(l) <= 64 && len(b) <= 64
}

// model goes from tick to tick up to the end, and reckons the work due anew at each deadline, by numbers without an end.
func model(l []api.Dem, b []api.Block) verdict {
	if !mayBe(l, b) {
		return refusal(api.ErrArg)
	}
	period := modelPeriod(l)
	if period == 0 {
		return refusal(api.ErrOver)
	}
	end, load := period, new(big.Int)
	for _, d := range l {
		load.Add(load, new(big.Int).Mul(big.NewInt(d.C), big.NewInt(period/d.T)))
	}
	for _, x := range b {
		end = max(end, x.D)
	}
	if load.Cmp(big.NewInt(mostWork)) > 0 {
		return refusal(api.ErrOver)
	}
	var v verdict
	for t := int64(1); t <= end; t++ {
		work, deadline := modelDue(l, t)
		if !deadline {
			continue
		}
		left := new(big.Int).Sub(big.NewInt(t-modelAt(b, t)), work)
		if left.Sign() < 0 {
			return late(t)
		}
		if !v.Room.OK || left.Int64() < v.Room.N {
			v.Room = yes(left.Int64())
		}
	}
	if load.Cmp(big.NewInt(period)) > 0 {
		v = verdict{Test: int(api.ErrLoad)}
	}
	return v
}

// drawn are up to most demands, of periods that divide longest (or are up to longest, if it is short); now and then of no work, or of the same periods.
func drawn(next func(n int64) int64, most, longest int64) []api.Dem {
	var l []api.Dem
	for range next(most + 1) {
		d := dem(0, 0, 1+next(longest))
		for longest > 30 && longest%d.T != 0 {
			d.T = 1 + next(longest)
		}
		if len(l) > 0 && next(4) == 0 {
			d.T = l[0].T
		}
		d.D = 1 + next(d.T)
		d.C = next(2 + d.D/(1+next(4)))
		l = append(l, d)
	}
	return l
}

// drawnBlocks are up to most blocks, at times up to longest.
func drawnBlocks(next func(n int64) int64, most, longest int64) []api.Block {
	var b []api.Block
	for range next(most + 1) {
		b = append(b, api.Block{D: 1 + next(longest), B: next(1 + longest/(1+next(9)))})
	}
	return b
}

// P12.1: which blocks may be, on both sides of each edge; with the others nothing is told, whatever else is wrong.
func TestRight(t *testing.T) {
	good, idle := api.Block{D: 4, B: 3}, []api.Dem{dem(0, 4, 5)}
	for _, b := range [][]api.Block{
		nil, {}, {good}, {good, good}, held(64, 4, 3), held(64, mostP, mostC), held(64, 1, 0),
		{{D: 1, B: 3}}, {{D: mostP, B: 3}}, {{D: 4, B: 0}}, {{D: 4, B: mostC}}, {{D: mostP, B: mostC}, {D: 1, B: 0}}, {{D: 1, B: mostC}},
	} {
		is(t, fmt.Sprint(b), qpa.Right(b), true)
		is(t, fmt.Sprint(b), qpa.Test(idle, b) != api.ErrArg, true)
	}
	refused := func(what string, b []api.Block) {
		t.Helper()
		is(t, what, qpa.Right(b), false)
		for _, l := range [][]api.Dem{nil, idle, {dem(2, 1, 4)}, {dem(2, 1, mostP+1)}, alike(64, dem(mostC, 1, 1)), {dem(-1, 4, 5)}} {
			is(t, what+fmt.Sprint(" with ", l), told(l, b), refusal(api.ErrArg))
			is(t, what+fmt.Sprint(" with more than ", l), qpa.Fits(l, b, dem(0, 5, 5)), false)
		}
	}
	for _, x := range []api.Block{
		{}, {D: 0, B: 3}, {D: -1, B: 3}, {D: mostP + 1, B: 3}, {D: mostT, B: 3}, {D: 4, B: -1}, {D: 4, B: mostC + 1}, {D: -4, B: -3}, {D: 0, B: 0}, {D: mostP + 1, B: 0},
		{D: math.MinInt64, B: 3}, {D: math.MaxInt64, B: 3}, {D: 4, B: math.MinInt64}, {D: 4, B: math.MaxInt64}, {D: 1<<32 + 4, B: 3}, {D: 4, B: 1<<41 + 3},
		{D: math.MinInt64, B: math.MinInt64}, {D: math.MaxInt64, B: math.MaxInt64},
	} {
		refused(fmt.Sprint(x), []api.Block{x})
		refused(fmt.Sprint(x, " ahead"), []api.Block{x, good, good})
		refused(fmt.Sprint(x, " between"), []api.Block{good, x, good})
		refused(fmt.Sprint(x, " behind"), append(held(63, 4, 3), x))
	}
	refused("65", held(65, 4, 3))
	refused("65 of nothing", held(65, 1, 0))
	refused("2^20", held(1<<20, 4, 0))
}

// P12.1: what is held, of any blocks and times.
func TestAt(t *testing.T) {
	three := []api.Block{{D: 5, B: 3}, {D: 9, B: 2}, {D: 7, B: 3}}
	below := []api.Block{{D: 5, B: -3}, {D: 9, B: -7}}
	for _, x := range []struct {
		b       []api.Block
		t, want int64
	}{
		{nil, 0, 0}, {[]api.Block{}, 5, 0}, {nil, math.MinInt64, 0},
		{held(1, 10, 3), 0, 3}, {held(1, 10, 3), 9, 3}, {held(1, 10, 3), 10, 0}, {held(1, 10, 3), 11, 0}, {held(1, 10, 3), -1, 3},
		{three, 0, 3}, {three, 4, 3}, {three, 5, 3}, {three, 6, 3}, {three, 7, 2}, {three, 8, 2}, {three, 9, 0}, {three, mostP, 0},
		{[]api.Block{{D: 9, B: 2}, {D: 5, B: 4}}, 4, 4}, {[]api.Block{{D: 9, B: 2}, {D: 5, B: 4}}, 5, 2}, {[]api.Block{{D: 5, B: 4}, {D: 9, B: 2}}, 4, 4}, {[]api.Block{{D: 5, B: 2}, {D: 9, B: 4}}, 4, 4},
		{[]api.Block{{D: 5, B: 2}, {D: 5, B: 4}, {D: 5, B: 1}}, 4, 4}, {[]api.Block{{D: 5, B: 2}, {D: 5, B: 4}, {D: 5, B: 1}}, 5, 0},
		{below, 4, -3}, {below, 5, -7}, {below, 9, 0}, {[]api.Block{{D: 5, B: -3}, {D: 9, B: 0}}, 4, 0}, {[]api.Block{{D: 5, B: 0}, {D: 9, B: -3}}, 4, 0},
		{held(1, -4, 6), -5, 6}, {held(1, -4, 6), -4, 0}, {held(1, 0, 6), -1, 6}, {held(1, 0, 6), 0, 0},
		{held(1, math.MaxInt64, 6), math.MaxInt64 - 1, 6}, {held(1, math.MaxInt64, 6), math.MaxInt64, 0}, {held(1, math.MinInt64, 6), math.MinInt64, 0},
		{held(1, math.MinInt64+1, 6), math.MinInt64, 6}, {held(1, math.MaxInt64, 6), math.MinInt64, 6}, {held(1, math.MinInt64, 6), math.MaxInt64, 0},
		{held(1, 9, math.MinInt64), 8, math.MinInt64}, {held(1, 9, math.MaxInt64), 8, math.MaxInt64}, {held(1, 9, mostC+1), 8, mostC + 1},
		{append(held(100, 9, 1), api.Block{D: 9, B: 5}), 8, 5}, {append(held(100, 9, 1), api.Block{D: 8, B: 5}), 8, 1}, {held(1<<20, mostP+9, 7), mostP + 8, 7},
	} {
		is(t, fmt.Sprintf("At(%v, %d)", x.b, x.t), qpa.At(x.b, x.t), x.want)
	}
	next := drawer()
	for range 3000 {
		var b []api.Block
		for range next(9) {
			b = append(b, api.Block{D: next(20) - 5, B: next(30) - 10})
		}
		for at := int64(-7); at < 17; at++ {
			is(t, fmt.Sprintf("At(%v, %d)", b, at), qpa.At(b, at), modelAt(b, at))
		}
	}
}

// P12.2 and P12.3: by hand; the chapter's example first, and the document's.
func TestByHand(t *testing.T) {
	two := []api.Dem{dem(2, 4, 6), dem(3, 9, 12)}
	for _, x := range []struct {
		l    []api.Dem
		b    []api.Block
		want verdict
	}{
		{[]api.Dem{dem(2, 4, 5)}, held(1, 10, 3), late(4)},
		{[]api.Dem{dem(2, 4, 4)}, held(1, 5, 3), late(4)}, {[]api.Dem{dem(2, 4, 4)}, held(1, 4, 3), room(2)}, {[]api.Dem{dem(2, 4, 4)}, held(1, 5, 2), room(0)},
		{two, nil, room(2)}, {two, held(1, 9, 2), room(0)}, {two, held(1, 5, 3), late(4)}, {two, held(1, 4, 3), room(2)}, {two, held(1, 5, 1), room(1)}, {two, held(1, 9, 3), late(4)}, {two, held(1, 10, 2), room(0)},
		{two, []api.Block{{D: 4, B: 9}, {D: 5, B: 2}, {D: 1, B: mostC}}, room(0)}, {two, []api.Block{{D: 5, B: 2}, {D: 10, B: 3}}, late(4)},
		{nil, nil, verdict{}}, {[]api.Dem{}, []api.Block{}, verdict{}}, {nil, held(64, mostP, mostC), verdict{}},
		{[]api.Dem{dem(0, 1, 1)}, nil, room(1)}, {[]api.Dem{dem(1, 1, 1)}, nil, room(0)}, {[]api.Dem{dem(2, 1, 1)}, nil, late(1)}, {[]api.Dem{dem(0, 5, 9)}, nil, room(5)},
		{[]api.Dem{dem(0, 3, 3)}, held(1, 4, 3), room(0)}, {[]api.Dem{dem(0, 3, 3)}, held(1, 4, 4), late(3)}, {[]api.Dem{dem(0, 3, 3)}, held(1, 3, 4), room(3)}, {[]api.Dem{dem(0, 3, 3)}, held(1, 8, 4), late(3)},
		{[]api.Dem{dem(5, 5, 5)}, nil, room(0)}, {[]api.Dem{dem(6, 5, 5)}, nil, late(5)}, {[]api.Dem{dem(3, 2, 5)}, nil, late(2)}, {[]api.Dem{dem(2, 2, 5)}, nil, room(0)},
		{[]api.Dem{dem(2, 4, 6), dem(3, 9, 12), dem(5, 12, 12)}, nil, room(0)}, {[]api.Dem{dem(2, 4, 6), dem(3, 9, 12), dem(6, 12, 12)}, nil, late(12)},
		{[]api.Dem{dem(1, 2, 2), dem(1, 3, 3), dem(1, 6, 6)}, nil, room(0)}, {[]api.Dem{dem(1, 2, 2), dem(1, 3, 3), dem(2, 6, 6)}, nil, late(6)},
		{[]api.Dem{dem(1, 1, 2), dem(1, 2, 3)}, nil, room(0)}, {[]api.Dem{dem(1, 1, 2), dem(1, 1, 3)}, nil, late(1)}, {[]api.Dem{dem(1, 1, 2), dem(2, 3, 4)}, nil, late(3)},
		{[]api.Dem{dem(3, 4, 6), dem(0, 2, 3)}, held(1, 5, 1), room(0)}, {[]api.Dem{dem(3, 4, 6), dem(0, 2, 3)}, held(1, 5, 2), late(4)}, {[]api.Dem{dem(3, 4, 6), dem(0, 2, 3)}, held(1, 3, 3), late(2)},
		{alike(64, dem(1, 64, 64)), nil, room(0)}, {alike(64, dem(1, 64, 64)), held(64, 65, 0), room(0)}, {alike(64, dem(1, 64, 64)), append(held(63, 65, 0), api.Block{D: 65, B: 1}), late(64)},
		{alike(64, dem(1, 63, 64)), nil, late(63)}, {alike(63, dem(1, 63, 64)), nil, room(0)},
	} {
		what := fmt.Sprintf("of %v, %v", x.l, x.b)
		is(t, what, told(x.l, x.b), x.want)
		is(t, what+": the model", model(x.l, x.b), x.want)
	}
}

// P12.2: what is refused, and which error goes first.
func TestErrors(t *testing.T) {
	good, heavy := dem(2, 4, 5), dem(9, 4, 5)
	long, much := dem(1, 1, mostP+1), []api.Dem{dem(mostC, 1, 1), dem(mostC, 1, 1), dem(mostC, 1, 1), dem(mostC, 1, 1), dem(1, 1, mostP)}
	right, wrong := held(1, 10, 1), held(1, 0, 1)
	for _, d := range []api.Dem{
		dem(-1, 4, 5), dem(mostC+1, 4, 5), dem(2, 0, 5), dem(2, 6, 5), dem(2, 4, mostT+1), dem(2, 0, 0), {}, dem(math.MinInt64, 4, 5), dem(2, math.MinInt64, 5), dem(2, 4, math.MaxInt64),
		dem(math.MaxInt64, math.MaxInt64, math.MaxInt64), dem(math.MinInt64, math.MinInt64, math.MinInt64),
	} {
		for _, l := range [][]api.Dem{{d}, {good, d}, {d, good}, {heavy, d, heavy}, {long, d}, append(slices.Clone(much), d)} {
			for _, b := range [][]api.Block{nil, right, wrong, held(65, 1, 1)} {
				is(t, fmt.Sprint(l, b), told(l, b), refusal(api.ErrArg))
			}
		}
		is(t, fmt.Sprint("more of ", d), qpa.Fits([]api.Dem{good}, right, d), false)
		is(t, fmt.Sprint("more than ", d), qpa.Fits([]api.Dem{d}, right, good), false)
	}
	for _, x := range []struct {
		what string
		l    []api.Dem
		b    []api.Block
		want verdict
	}{
		{"64", alike(64, dem(0, 4, 5)), right, room(3)},
		{"65", alike(65, dem(0, 4, 5)), right, refusal(api.ErrArg)},
		{"65 of too much", alike(65, heavy), right, refusal(api.ErrArg)},
		{"2^20", alike(1<<20, good), nil, refusal(api.ErrArg)},
		{"too long a period", []api.Dem{long}, right, refusal(api.ErrOver)},
		{"too long a period, and wrong blocks", []api.Dem{long}, wrong, refusal(api.ErrArg)},
		{"too long a period of no work", []api.Dem{dem(0, mostP+1, mostP+1)}, nil, refusal(api.ErrOver)},
		{"too long a period of too much", []api.Dem{heavy, long}, right, refusal(api.ErrOver)},
		{"the longest period", []api.Dem{dem(1, 1, mostP)}, nil, room(0)},
		{"too long a period of two", []api.Dem{dem(1, 3, mostP), dem(1, 3, 3)}, nil, refusal(api.ErrOver)},
		{"more work than is told", much, nil, refusal(api.ErrOver)},
		{"more work than is told, and wrong blocks", much, wrong, refusal(api.ErrArg)},
		{"the most work that is told", much[:4], right, late(1)},
		{"the most work that is told, of 2^20 ticks", append(slices.Clone(much[:4]), dem(0, 1, mostP)), nil, late(1)},
		{"too much, and wrong blocks", []api.Dem{heavy}, wrong, refusal(api.ErrArg)},
		{"too much", []api.Dem{heavy}, right, late(4)},
		{"no demands, and wrong blocks", nil, wrong, refusal(api.ErrArg)},
	} {
		is(t, x.what, told(x.l, x.b), x.want)
		is(t, x.what+": the model", model(x.l, x.b), x.want)
	}
}

// P12.2: work, and what is held, of the greatest sizes, that would be told otherwise if numbers wrapped, or work that isn't told were none.
func TestMuch(t *testing.T) {
	full, last := dem(mostC, 1, 1), dem(mostC, mostP, mostP)
	for _, x := range []struct {
		what string
		l    []api.Dem
		b    []api.Block
		want verdict
	}{
		{"2^40 held", []api.Dem{dem(0, 1, 1)}, held(1, 2, mostC), late(1)},
		{"2^40 held too early", []api.Dem{dem(0, 1, 1)}, held(1, 1, mostC), room(1)},
		{"2^40 held ahead of the first deadline", []api.Dem{dem(1, 9, 9)}, held(64, 9, mostC), room(8)},
		{"2^40 held by 64", alike(64, dem(0, 7, 7)), held(64, mostP, mostC), late(7)},
		{"2^62 in the first tick of a period", alike(64, last), held(64, mostP, mostC), late(mostP)},
		{"2^66 behind 2^20 ticks", alike(64, full), held(1, mostP, 0), late(1)},
		{"2^66 behind 2^20 ticks, and 2^40 held", alike(64, full), held(64, mostP, mostC), late(1)},
		{"2^66 behind 2^20 ticks, of which one is the first of all", append(alike(63, full), dem(0, 1, 2)), held(1, mostP, 0), late(1)},
		{"2^66, first due later", alike(64, dem(mostC, 2, 2)), held(1, mostP, mostC), late(2)},
		{"2^66, due behind the first 2000 ticks", append(alike(63, dem(mostC, 2001, 2001)), dem(1, 1, 1)), held(1, mostP, 0), late(2001)},
		{"just what can be done", []api.Dem{dem(mostP, mostP, mostP)}, nil, room(0)},
		{"a tick more", []api.Dem{dem(mostP+1, mostP, mostP)}, nil, late(mostP)},
		{"just what can be done of many", alike(64, dem(mostP/64, mostP, mostP)), held(64, mostP, mostC), room(0)},
		{"a tick more of many", append(alike(63, dem(mostP/64, mostP, mostP)), dem(mostP/64+1, mostP, mostP)), nil, late(mostP)},
	} {
		is(t, x.what, told(x.l, x.b), x.want)
	}
}

// P12.2 and P12.3: deadlines count up to the end, which may lie at a period's end, or far behind it.
func TestEnd(t *testing.T) {
	for _, x := range []struct {
		l    []api.Dem
		b    []api.Block
		want verdict
	}{
		{[]api.Dem{dem(3, 5, 5)}, nil, room(2)}, {[]api.Dem{dem(3, 5, 5)}, held(1, 5, 9), room(2)}, {[]api.Dem{dem(3, 5, 5)}, held(1, 6, 2), room(0)}, {[]api.Dem{dem(3, 5, 5)}, held(1, mostP, 2), room(0)},
		{[]api.Dem{dem(3, 5, 5)}, held(1, mostP, 3), late(5)}, {[]api.Dem{dem(1, 1, 1)}, held(1, mostP, 0), room(0)}, {[]api.Dem{dem(0, 1, 1)}, held(1, mostP, 1), room(0)}, {[]api.Dem{dem(1, 1, 2)}, held(1, mostP, 0), room(0)},
		{[]api.Dem{dem(1, 7, 7)}, []api.Block{{D: 8, B: 2}, {D: 3000, B: 1}}, room(4)}, {[]api.Dem{dem(1, 7, 7), dem(0, 1, 7)}, []api.Block{{D: 3, B: 1}, {D: 3000, B: 0}}, room(0)},
		{[]api.Dem{dem(9, 7, 7)}, held(1, 3000, 0), late(7)}, {[]api.Dem{dem(6, 4, 5), dem(0, 1, 1)}, held(1, 3000, 0), late(4)},
		{[]api.Dem{dem(1, mostP, mostP)}, nil, room(mostP - 1)}, {[]api.Dem{dem(1, mostP-1, mostP)}, held(1, mostP, 7), room(mostP - 9)}, {[]api.Dem{dem(1, mostP-1, mostP)}, held(1, mostP-1, 7), room(mostP - 2)},
		{[]api.Dem{dem(1, mostP-1, mostP)}, held(1, mostP, mostP-2), room(0)}, {[]api.Dem{dem(1, mostP-1, mostP)}, held(1, mostP, mostP-1), late(mostP - 1)}, {[]api.Dem{dem(1, mostP, mostP)}, held(64, mostP, mostC), room(mostP - 1)},
	} {
		what := fmt.Sprintf("of %v, %v", x.l, x.b)
		is(t, what, told(x.l, x.b), x.want)
		is(t, what+": the model", model(x.l, x.b), x.want)
	}
}

// P12.2 and P12.3: at each of many ticks a deadline that is just kept, or missed by one; behind others that are kept.
func TestEachTick(t *testing.T) {
	for at := int64(1); at <= 5000; at++ {
		what, late := fmt.Sprint("at ", at), late(at)
		is(t, what+": kept", told([]api.Dem{dem(at, at, mostP)}, held(1, at, mostC)), room(0))
		is(t, what+": missed", told([]api.Dem{dem(at+1, at, mostP)}, nil), late)
		is(t, what+": held", told([]api.Dem{dem(at, at, mostP)}, held(1, at+1, 1)), late)
		is(t, what+": with room", told([]api.Dem{dem(at-1, at, mostP)}, held(1, at+1, 1)), room(0))
		is(t, what+": held longer", told([]api.Dem{dem(at, at, mostP)}, []api.Block{{D: at, B: mostC}, {D: at + 9, B: 1}}), late)
		is(t, what+": behind others", told([]api.Dem{dem(0, 1, 1), dem(at, at, 1<<13)}, held(1, at+1, 1)), late)
	}
}

// P12.2 and P12.3: drawn demands and blocks, held against a walk from tick to tick.
func TestDrawn(t *testing.T) {
	next := drawer()
	var kept, missed, held int
	for range 20000 {
		longest := 1 + next(16)
		l, b := drawn(next, 5, longest), drawnBlocks(next, 4, longest+4)
		got := told(l, b)
		is(t, fmt.Sprintf("of %v, %v", l, b), got, model(l, b))
		switch {
		case got.Room.OK:
			kept++
		case got.Miss.OK && qpa.Test(l, nil) == api.OK:
			held++
		case got.Miss.OK:
			missed++
		}
	}
	if min(kept, missed, held) < 1000 {
		t.Errorf("drawn too seldom: %d are kept, %d missed, %d missed for what is held", kept, missed, held)
	}
}

// P12.2 and P12.3: drawn demands of long periods, whose deadlines and blocks lie anywhere.
func TestDrawnFar(t *testing.T) {
	next := drawer()
	var kept, missed int
	for i := range 300 {
		longest := []int64{5040, 1 << 12, 27720, 1 << 15}[i%4]
		l, b := drawn(next, 3, longest), drawnBlocks(next, 5, 2*longest)
		for i := range b {
			b[i].B = b[i].B * next(3) >> next(16)
			if len(l) > 0 && next(3) == 0 {
				b[i].D = l[0].D + next(2)
			}
		}
		load := int64(0)
		for i := range l {
			l[i].C /= 1 + next(9)
			load += l[i].C * (longest / l[i].T)
		}
		if load < longest && next(3) > 0 {
			// Nearly no time is left: what is missed is missed late.
			l = append(l, dem(longest-load+next(3)-1, longest-next(9), longest))
		}
		got := told(l, b)
		is(t, fmt.Sprintf("of %v, %v", l, b), got, model(l, b))
		if got.Room.OK {
			kept++
		}
		if got.Miss.N > 1100 {
			missed++
		}
	}
	if min(kept, missed) < 20 {
		t.Errorf("drawn too seldom: %d are kept, %d missed late", kept, missed)
	}
}

// P12.2 and P12.3: demands of the longest period.
func TestDrawnLongest(t *testing.T) {
	next := drawer()
	for range 20 {
		l, b := drawn(next, 4, mostP), drawnBlocks(next, 3, mostP)
		l = append(l, dem(next(mostP), mostP-next(9), mostP))
		for i := range b {
			b[i].B >>= next(20)
		}
		is(t, fmt.Sprintf("of %v, %v", l, b), told(l, b), model(l, b))
	}
}

// runs goes through ticks by deadlines: all release jobs at 0, T, 2 T, and so on, somebody holds the processor ahead of them. It tells the first deadline below before that was missed.
func runs(l []api.Dem, hold, before int64) answer {
	type job struct{ left, due int64 }
	var jobs []job
	for t := int64(0); t < before; t++ {
		for _, d := range l {
			if t%d.T == 0 {
				jobs = append(jobs, job{d.C, t + d.D})
			}
		}
		jobs = slices.DeleteFunc(jobs, func(j job) bool { return j.left == 0 })
		slices.SortStableFunc(jobs, func(a, b job) int { return int(a.due - b.due) })
		if len(jobs) > 0 && jobs[0].due <= t {
			return yes(jobs[0].due)
		}
		if t >= hold && len(jobs) > 0 {
			jobs[0].left--
		}
	}
	return none
}

// P12.2: what is told is what becomes of who releases all its jobs as early as it may, behind one who holds the processor.
func TestIsWhatRuns(t *testing.T) {
	next := drawer()
	var kept, missed int
	for range 5000 {
		l := drawn(next, 4, 1+next(10))
		for i := range l {
			// Deadlines of no work count too, but nobody is late for them who only runs.
			l[i].C = max(l[i].C, 1)
		}
		period := modelPeriod(l)
		miss, late := qpa.Miss(l, nil)
		is(t, fmt.Sprint(l), answer{miss, late}, runs(l, 0, period+1))
		b := api.Block{D: 1 + next(period+3), B: next(4)}
		miss, late = qpa.Miss(l, []api.Block{b})
		if want := runs(l, b.B, b.D); want.OK || late && miss < b.D {
			is(t, fmt.Sprint(l, b), answer{miss, late}, want)
			missed++
		} else {
			kept++
		}
	}
	if min(kept, missed) < 500 {
		t.Errorf("drawn too seldom: %d are kept, %d missed", kept, missed)
	}
}

// P12.3: what fits with more, by hand.
func TestFits(t *testing.T) {
	two := []api.Dem{dem(2, 4, 6), dem(3, 9, 12)}
	for _, x := range []struct {
		l    []api.Dem
		b    []api.Block
		more api.Dem
		want bool
	}{
		{two, nil, dem(5, 12, 12), true}, {two, nil, dem(6, 12, 12), false}, {two, held(1, 9, 2), dem(5, 12, 12), true}, {two, held(1, 13, 1), dem(5, 12, 12), false}, {two, held(1, 9, 3), dem(0, 12, 12), false},
		{two, nil, dem(2, 4, 12), true}, {two, nil, dem(3, 4, 12), false}, {two, nil, dem(0, 1, 1), true}, {two, held(1, 2, 1), dem(0, 1, 1), true}, {two, held(1, 2, 2), dem(0, 1, 1), false},
		{nil, nil, dem(4, 4, 4), true}, {nil, nil, dem(5, 4, 4), false}, {nil, held(1, 5, 1), dem(3, 4, 4), true}, {nil, held(1, 5, 1), dem(4, 4, 4), false}, {nil, nil, dem(0, 1, mostP), true}, {nil, nil, dem(0, 1, mostP+1), false},
		{two, nil, dem(1, 7, 7), true}, {two, nil, dem(0, mostP, mostP), false}, {two, nil, dem(1, 13, 12), false}, {two, nil, api.Dem{}, false}, {two, held(1, 0, 0), dem(0, 12, 12), false}, {two, held(65, 1, 0), dem(0, 12, 12), false},
		{alike(63, dem(0, 4, 4)), nil, dem(4, 4, 4), true}, {alike(63, dem(0, 4, 4)), nil, dem(5, 4, 4), false}, {alike(64, dem(0, 4, 4)), nil, dem(0, 4, 4), false}, {alike(1<<20, dem(0, 4, 4)), nil, dem(0, 4, 4), false},
		{alike(4, dem(mostC, 1, 1)), nil, dem(1, mostP, mostP), false}, {[]api.Dem{dem(9, 4, 4)}, nil, dem(0, 4, 4), false},
	} {
		is(t, fmt.Sprintf("Fits(%v, %v, %v)", x.l, x.b, x.more), qpa.Fits(x.l, x.b, x.more), x.want)
	}
	next := drawer()
	for range 5000 {
		longest := 1 + next(12)
		l, b, more := drawn(next, 4, longest), drawnBlocks(next, 2, longest), dem(next(6)-1, 1+next(longest), longest)
		want := model(append(slices.Clone(l), more), b).Test == 0
		is(t, fmt.Sprintf("Fits(%v, %v, %v)", l, b, more), qpa.Fits(l, b, more), want)
	}
}

// P12.4: what was too much stays so, and is not missed later, with more that is held, or more work; what is kept has no more room.
func TestStaysTooMuch(t *testing.T) {
	next := drawer()
	var stayed int
	for range 20000 {
		longest := 1 + next(16)
		l, b := drawn(next, 4, longest), drawnBlocks(next, 3, longest)
		before := told(l, b)
		heavier, longer := slices.Clone(l), slices.Clone(b)
		switch more := 1 + next(5); {
		case next(4) == 0:
			longer = append(longer, api.Block{D: 1 + next(longest+9), B: next(9)})
		case next(3) == 0:
			heavier = append(heavier, dem(next(9), longest, longest))
		case next(2) == 0 && len(b) > 0:
			longer[next(int64(len(b)))].B += more
		case len(b) > 0:
			longer[next(int64(len(b)))].D += more
		case len(l) > 0:
			heavier[next(int64(len(l)))].C += more
		}
		what := fmt.Sprintf("of %v, %v, and more: %v, %v", l, b, heavier, longer)
		after := told(heavier, longer)
		if before.Miss.OK {
			stayed++
			is(t, what, after.Test, int(api.ErrLoad))
			is(t, what+": later", !after.Miss.OK || after.Miss.N > before.Miss.N, false)
		}
		if before.Room.OK && after.Room.OK {
			is(t, what+": more room", after.Room.N > before.Room.N, false)
		}
	}
	if stayed < 3000 {
		t.Errorf("only %d drawn ones were too much", stayed)
	}
}

// P12.3: just as much more as there is room for may be held at all deadlines, and no more.
func TestRoomIsWhatMayBeHeld(t *testing.T) {
	next := drawer()
	for range 5000 {
		l := drawn(next, 4, 1+next(16))
		least, ok := qpa.Room(l, nil)
		if !ok {
			continue
		}
		is(t, fmt.Sprint(l, " with all its room held"), told(l, held(1, mostP>>8, least)), room(0))
		is(t, fmt.Sprint(l, " with one tick more held"), qpa.Test(l, held(1, mostP>>8, least+1)), api.ErrLoad)
	}
}

// P1: the longest rows of deadlines end soon: 2^20 of them, of 64 demands, behind 64 blocks, kept or missed at the last one.
func TestEnds(t *testing.T) {
	l := append(alike(63, dem(0, 1, 1)), dem(mostP, mostP, mostP))
	var b []api.Block
	for i := range int64(64) {
		b = append(b, api.Block{D: mostP - 64 + i, B: i % 2})
	}
	for range 3 {
		is(t, "kept", told(l, b), room(0))
		is(t, "missed", told(append(l[:63:63], dem(mostP+1, mostP, mostP)), b), late(mostP))
		is(t, "kept behind the period", told(alike(64, dem(0, 1, 1)), b), room(0))
	}
}

// R3: what is handed in stays as it is, behind it and in what it is cut from too.
func TestLeftAsItIs(t *testing.T) {
	demands := []api.Dem{dem(9, 9, 9), dem(2, 4, 6), dem(3, 9, 12), dem(1, 7, 8), dem(4, 4, 4)}
	blocks := []api.Block{{D: 3, B: 3}, {D: 9, B: 1}, {D: 5, B: 2}, {D: 7, B: 7}}
	l, b := slices.Clone(demands), slices.Clone(blocks)
	told(l[1:3], b[1:3])
	qpa.Right(b[1:3])
	qpa.At(b[1:3], 4)
	is(t, "does it fit", qpa.Fits(l[1:3], b[1:3], dem(5, 12, 12)), true)
	is(t, "demands", l, demands)
	is(t, "blocks", b, blocks)
}
