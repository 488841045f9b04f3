package arith_test

import (
	"math/big"
	"slices"
	"testing"

	"ostinato/arith"
)

const most = 1<<64 - 1

// prime is the greatest prime number below 2^32.
const prime = 1<<32 - 5

// edges are numbers at which carries, wraps and rests begin or end.
func edges() []uint64 {
	return []uint64{
		0, 1, 2, 3, 4, 5, 6, 7, 9, 10, 12, 60, 1<<31 - 1, 1 << 31, prime, 1<<32 - 1, 1 << 32, 1<<32 + 1,
		1<<33 - 1, 1 << 33, 1<<62 + 1, 1<<63 - 1, 1 << 63, 1<<63 + 1, prime * prime, most - 1, most,
	}
}

// lists are rows of numbers whose sums, products and parts lie at and beyond the edges.
func lists() [][]uint64 {
	l := [][]uint64{
		nil, {}, {0}, {0, 0}, {1}, {most}, {most, most}, {most, 0, 0}, {0, 0, most}, {most, 1}, {1, most}, {most, 1, 0},
		{1 << 63, 1 << 63}, {1 << 62, 1 << 62, 1 << 62, 1 << 62}, {1 << 62, 1 << 62, 1 << 62, 1<<62 - 1},
		{4, 6, 10}, {10, 6, 4}, {0, 12, 18}, {12, 0, 18}, {12, 18, 0}, {6, 10, 15}, {1, 1, 1}, {7, 7, 7},
		{1 << 33, 1<<33 - 1}, {1 << 33, 1<<33 - 1, 0}, {1 << 32, 1<<32 - 1}, {1 << 32, 1<<32 + 1}, {prime, prime}, {prime * prime, prime}, {prime * prime, 2},
		{1 << 63, 1 << 62, 1}, {1 << 63, 3}, {1 << 40, 3, 1 << 41}, {most, most - 1}, {most, 3, 5, 17, 257, 641, 65537, 6700417},
	}
	for _, a := range edges() {
		for _, b := range edges() {
			l = append(l, []uint64{a, b}, []uint64{b, 6, a})
		}
	}
	return append(l, drawn()...)
}

// drawn are 300 rows of up to 5 numbers of all lengths, the same ones at every call.
func drawn() [][]uint64 {
	x := uint64(88172645463325252)
	draw := func() uint64 {
		x ^= x << 13
		x ^= x >> 7
		x ^= x << 17
		return x
	}
	var l [][]uint64
	for range 300 {
		row := make([]uint64, draw()%6)
		for i := range row {
			n := draw()
			row[i] = n >> (draw() % 64)
		}
		l = append(l, row)
	}
	return l
}

func number(n uint64) *big.Int { return new(big.Int).SetUint64(n) }

// fits tells a number as the calls must: itself and true, or 0 and false if 64 bits don't hold it.
func fits(n *big.Int) (uint64, bool) {
	if !n.IsUint64() {
		return 0, false
	}
	return n.Uint64(), true
}

type call struct {
	got uint64
	ok  bool
}

func told(n uint64, ok bool) call { return call{n, ok} }

func same(t *testing.T, name string, args any, got, want call) {
	t.Helper()
	if got != want {
		t.Errorf("%s(%v) = %v, want %v", name, args, got, want)
	}
}

// P1.1, by hand: ordinary numbers, and each edge on both sides.
func TestSumsByHand(t *testing.T) {
	for _, c := range []struct {
		name      string
		f         func(a, b uint64) (uint64, bool)
		a, b      uint64
		want      uint64
		wantsTrue bool
	}{
		{"Add", arith.Add, 2, 3, 5, true},
		{"Add", arith.Add, 0, 0, 0, true},
		{"Add", arith.Add, most, 0, most, true},
		{"Add", arith.Add, most - 1, 1, most, true},
		{"Add", arith.Add, most, 1, 0, false},
		{"Add", arith.Add, most, 2, 0, false},
		{"Add", arith.Add, 1 << 63, 1 << 63, 0, false},
		{"Add", arith.Add, most, most, 0, false},
		{"Sub", arith.Sub, 5, 3, 2, true},
		{"Sub", arith.Sub, 5, 5, 0, true},
		{"Sub", arith.Sub, most, 0, most, true},
		{"Sub", arith.Sub, 0, 1, 0, false},
		{"Sub", arith.Sub, 3, 5, 0, false},
		{"Sub", arith.Sub, 0, most, 0, false},
		{"Mul", arith.Mul, 6, 7, 42, true},
		{"Mul", arith.Mul, 0, most, 0, true},
		{"Mul", arith.Mul, most, 1, most, true},
		{"Mul", arith.Mul, 1<<32 - 1, 1<<32 + 1, most, true},
		{"Mul", arith.Mul, 1 << 32, 1 << 32, 0, false},
		{"Mul", arith.Mul, 1 << 63, 2, 0, false},
		{"Mul", arith.Mul, 1<<32 + 1, 1<<32 + 1, 0, false},
		{"Mul", arith.Mul, most, most, 0, false},
		{"CeilDiv", arith.CeilDiv, 7, 3, 3, true},
		{"CeilDiv", arith.CeilDiv, 6, 3, 2, true},
		{"CeilDiv", arith.CeilDiv, 1, 3, 1, true},
		{"CeilDiv", arith.CeilDiv, 0, 3, 0, true},
		{"CeilDiv", arith.CeilDiv, most, 1, most, true},
		{"CeilDiv", arith.CeilDiv, most, 2, 1 << 63, true},
		{"CeilDiv", arith.CeilDiv, most, most - 1, 2, true},
		{"CeilDiv", arith.CeilDiv, most - 1, most, 1, true},
		{"CeilDiv", arith.CeilDiv, 7, 0, 0, false},
		{"CeilDiv", arith.CeilDiv, 0, 0, 0, false},
	} {
		same(t, c.name, []uint64{c.a, c.b}, told(c.f(c.a, c.b)), call{c.want, c.wantsTrue})
	}
}

// P1.1 and P1.3: all pairs of edges, against numbers without an end.
func TestSumsAreExact(t *testing.T) {
	for _, a := range edges() {
		for _, b := range edges() {
			x, y, args := number(a), number(b), []uint64{a, b}
			same(t, "Add", args, told(arith.Add(a, b)), told(fits(new(big.Int).Add(x, y))))
			same(t, "Sub", args, told(arith.Sub(a, b)), told(fits(new(big.Int).Sub(x, y))))
			same(t, "Mul", args, told(arith.Mul(a, b)), told(fits(new(big.Int).Mul(x, y))))
			same(t, "CeilDiv", args, told(arith.CeilDiv(a, b)), told(ceilDiv(x, y)))
		}
	}
}

func ceilDiv(a, b *big.Int) (uint64, bool) {
	if b.Sign() == 0 {
		return 0, false
	}
	q, r := new(big.Int).QuoRem(a, b, new(big.Int))
	if r.Sign() != 0 {
		q.Add(q, number(1))
	}
	return fits(q)
}

// P1.1: sums of rows.
func TestSumByHand(t *testing.T) {
	for _, c := range []struct {
		l    []uint64
		want call
	}{
		{nil, call{0, true}},
		{[]uint64{}, call{0, true}},
		{[]uint64{0, 0}, call{0, true}},
		{[]uint64{7}, call{7, true}},
		{[]uint64{1, 2, 3, 4}, call{10, true}},
		{[]uint64{most, 0, 0}, call{most, true}},
		{[]uint64{1 << 63, 1<<63 - 1}, call{most, true}},
		{[]uint64{most, 1}, call{0, false}},
		{[]uint64{most, 1, 5}, call{0, false}},
		{[]uint64{5, most, 1}, call{0, false}},
		{[]uint64{1 << 63, 1 << 63, most}, call{0, false}},
	} {
		same(t, "Sum", c.l, told(arith.Sum(c.l...)), c.want)
	}
	same(t, "Sum", "of none", told(arith.Sum()), call{0, true})
}

func TestSumIsExact(t *testing.T) {
	for _, l := range lists() {
		s := new(big.Int)
		for _, n := range l {
			s.Add(s, number(n))
		}
		same(t, "Sum", l, told(arith.Sum(l...)), told(fits(s)))
	}
}

// P1.2, by hand.
func TestPartsByHand(t *testing.T) {
	for _, c := range []struct {
		l   []uint64
		gcd uint64
		lcm call
	}{
		{nil, 0, call{1, true}},
		{[]uint64{}, 0, call{1, true}},
		{[]uint64{0}, 0, call{0, false}},
		{[]uint64{0, 0}, 0, call{0, false}},
		{[]uint64{1}, 1, call{1, true}},
		{[]uint64{7}, 7, call{7, true}},
		{[]uint64{4, 6, 10}, 2, call{60, true}},
		{[]uint64{12, 18}, 6, call{36, true}},
		{[]uint64{18, 12}, 6, call{36, true}},
		{[]uint64{0, 12, 18}, 6, call{0, false}},
		{[]uint64{12, 0, 18}, 6, call{0, false}},
		{[]uint64{12, 18, 0}, 6, call{0, false}},
		{[]uint64{0, 5}, 5, call{0, false}},
		{[]uint64{5, 0}, 5, call{0, false}},
		{[]uint64{6, 10, 15}, 1, call{30, true}},
		{[]uint64{most}, most, call{most, true}},
		{[]uint64{most, most}, most, call{most, true}},
		{[]uint64{1 << 63, 1 << 62}, 1 << 62, call{1 << 63, true}},
		{[]uint64{1 << 63, 3}, 1, call{0, false}},
		{[]uint64{1 << 33, 1<<33 - 1}, 1, call{0, false}},
		{[]uint64{1 << 33, 1<<33 - 1, 1}, 1, call{0, false}},
		{[]uint64{1 << 32, 1<<32 - 1}, 1, call{1<<64 - 1<<32, true}},
		{[]uint64{1 << 32, 1<<32 + 1}, 1, call{0, false}},
		{[]uint64{prime * prime, prime}, prime, call{prime * prime, true}},
		{[]uint64{1 << 33, 1<<33 - 1, 0}, 1, call{0, false}},
	} {
		if got := arith.Gcd(c.l...); got != c.gcd {
			t.Errorf("Gcd(%v) = %d, want %d", c.l, got, c.gcd)
		}
		same(t, "Lcm", c.l, told(arith.Lcm(c.l...)), c.lcm)
	}
}

// P1.2 and P1.3: rows, against numbers without an end.
func TestPartsAreExact(t *testing.T) {
	for _, l := range lists() {
		if got, want := arith.Gcd(l...), gcd(l); got != want {
			t.Errorf("Gcd(%v) = %d, want %d", l, got, want)
		}
		same(t, "Lcm", l, told(arith.Lcm(l...)), told(lcm(l)))
	}
}

func gcd(l []uint64) uint64 {
	d := new(big.Int)
	for _, n := range l {
		d.GCD(nil, nil, d, number(n))
	}
	return d.Uint64()
}

func lcm(l []uint64) (uint64, bool) {
	m := number(1)
	for _, n := range l {
		if n == 0 {
			return 0, false
		}
		d := new(big.Int).GCD(nil, nil, m, number(n))
		m.Mul(m, new(big.Int).Quo(number(n), d))
	}
	return fits(m)
}

// P1.2: the whole part and the rest of a product.
func TestMulDivByHand(t *testing.T) {
	for _, c := range []struct {
		a, b, c uint64
		q, r    uint64
		ok      bool
	}{
		{7, 3, 4, 5, 1, true},
		{6, 2, 4, 3, 0, true},
		{0, 5, 3, 0, 0, true},
		{2, 3, 7, 0, 6, true},
		{most, 10, 20, 1<<63 - 1, 10, true},
		{most, most, most, most, 0, true},
		{most, 1, 1, most, 0, true},
		{1 << 32, 1 << 32, 2, 1 << 63, 0, true},
		{most, 2, 3, 12297829382473034410, 0, true},
		{1 << 32, 1 << 32, 1, 0, 0, false},
		{most, 10, 9, 0, 0, false},
		{most, most, most - 1, 0, 0, false},
		{most, most, 1, 0, 0, false},
		{7, 3, 0, 0, 0, false},
		{0, 0, 0, 0, 0, false},
		{most, most, 0, 0, 0, false},
	} {
		if q, r, ok := arith.MulDiv(c.a, c.b, c.c); q != c.q || r != c.r || ok != c.ok {
			t.Errorf("MulDiv(%d, %d, %d) = %d, %d, %v, want %d, %d, %v", c.a, c.b, c.c, q, r, ok, c.q, c.r, c.ok)
		}
	}
}

// P1.2 and P1.3: all threes of edges, against numbers without an end.
func TestMulDivIsExact(t *testing.T) {
	for _, a := range edges() {
		for _, b := range edges() {
			for _, c := range edges() {
				wantQ, wantR, wantOK := mulDiv(a, b, c)
				if q, r, ok := arith.MulDiv(a, b, c); q != wantQ || r != wantR || ok != wantOK {
					t.Errorf("MulDiv(%d, %d, %d) = %d, %d, %v, want %d, %d, %v", a, b, c, q, r, ok, wantQ, wantR, wantOK)
				}
			}
		}
	}
}

func mulDiv(a, b, c uint64) (uint64, uint64, bool) {
	if c == 0 {
		return 0, 0, false
	}
	product := new(big.Int).Mul(number(a), number(b))
	q, r := product.QuoRem(product, number(c), new(big.Int))
	whole, ok := fits(q)
	if !ok {
		return 0, 0, false
	}
	return whole, r.Uint64(), true
}

// R3: what is handed in stays as it is.
func TestRowsStay(t *testing.T) {
	for _, l := range lists() {
		kept := slices.Clone(l)
		arith.Sum(l...)
		arith.Gcd(l...)
		arith.Lcm(l...)
		if !slices.Equal(l, kept) {
			t.Errorf("a row was changed: %v, was %v", l, kept)
		}
	}
}

// R4: the same calls have the same answers, since nothing is kept.
func TestAnswersStay(t *testing.T) {
	for _, l := range lists() {
		sum, parts, least := told(arith.Sum(l...)), arith.Gcd(l...), told(arith.Lcm(l...))
		same(t, "Sum, again,", l, told(arith.Sum(l...)), sum)
		same(t, "Gcd, again,", l, told(arith.Gcd(l...), true), told(parts, true))
		same(t, "Lcm, again,", l, told(arith.Lcm(l...)), least)
	}
}

// P1 and R5: a row may be long.
func TestLongRows(t *testing.T) {
	const n = 1 << 20
	l := make([]uint64, n)
	for i := range l {
		l[i] = 6 << (i % 4)
	}
	same(t, "Sum", "a long row", told(arith.Sum(l...)), call{n / 4 * 90, true})
	same(t, "Lcm", "a long row", told(arith.Lcm(l...)), call{48, true})
	same(t, "Gcd", "a long row", told(arith.Gcd(l...), true), call{6, true})
	l[n-1] = most
	same(t, "Sum", "a long row, up to the edge", told(arith.Sum(l...)), call{0, false})
	l[n-1] = 0
	same(t, "Lcm", "a long row, with a zero", told(arith.Lcm(l...)), call{0, false})
	same(t, "Gcd", "a long row, with a zero", told(arith.Gcd(l...), true), call{6, true})
}
