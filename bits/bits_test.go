package bits_test

import (
	"math"
	"slices"
	"testing"

	"ostinato/api"
	"ostinato/bits"
)

// model is a set told the plain way: the place i says whether i is in it.
type model [256]bool

// modelOf reads the set from its words alone, as the chapter's section Words lays them.
func modelOf(a api.Bits) model {
	var m model
	for i := range m {
		m[i] = a[i/64]>>(i%64)&1 == 1
	}
	return m
}

// set lays the words of m.
func (m model) set() api.Bits {
	var a api.Bits
	for i, in := range m {
		if in {
			a[i/64] |= 1 << (i % 64)
		}
	}
	return a
}

func (m model) list() []int {
	var l []int
	for i, in := range m {
		if in {
			l = append(l, i)
		}
	}
	return l
}

// joined tells the numbers of which in says that they are in, of both models' places.
func joined(a, b model, in func(a, b bool) bool) api.Bits {
	var m model
	for i := range m {
		m[i] = in(a[i], b[i])
	}
	return m.set()
}

// outside are numbers that may be in no set: next to the edges, those whose rests and whole parts lie in one, and the farthest.
func outside() []int {
	return []int{-1, -2, -63, -64, -65, -127, -128, -255, -256, -257, 256, 257, 300, 319, 320, 511, 512, 1 << 16, 1<<31 - 1, 1 << 31, 1 << 32, 1<<32 + 5, -1 << 31, -1 << 32, math.MaxInt, math.MaxInt - 250, math.MinInt, math.MinInt + 5}
}

// edges are numbers at which words begin and end.
func edges() []int {
	return []int{0, 1, 31, 32, 62, 63, 64, 65, 127, 128, 129, 191, 192, 193, 254, 255}
}

// sets are the empty set, the full one, those of one number or without one, single words, and 60 drawn ones, the same at every call.
func sets() []api.Bits {
	const all = math.MaxUint64
	l := []api.Bits{
		{}, {all, all, all, all},
		{all}, {0, all}, {0, 0, all}, {0, 0, 0, all}, {all, 0, 0, all}, {0, all, all},
		{1 << 63, 1}, {1, 1, 1, 1}, {1 << 63, 1 << 63, 1 << 63, 1 << 63},
		{0x5555555555555555, 0x5555555555555555, 0x5555555555555555, 0x5555555555555555},
		{0xaaaaaaaaaaaaaaaa, 0xaaaaaaaaaaaaaaaa, 0xaaaaaaaaaaaaaaaa, 0xaaaaaaaaaaaaaaaa},
	}
	for i := range 256 {
		var m model
		m[i] = true
		a := m.set()
		l = append(l, a, api.Bits{^a[0], ^a[1], ^a[2], ^a[3]})
	}
	return append(l, drawn()...)
}

func drawn() []api.Bits {
	x := uint64(88172645463325252)
	draw := func() uint64 {
		x ^= x << 13
		x ^= x >> 7
		x ^= x << 17
		return x
	}
	var l []api.Bits
	for range 20 {
		thick := api.Bits{draw(), draw(), draw(), draw()}
		thin := api.Bits{draw() & draw() & draw(), draw() & draw() & draw(), draw() & draw() & draw(), draw() & draw() & draw()}
		l = append(l, thick, thin, api.Bits{draw() >> (draw() % 64), 0, draw() << (draw() % 64), 0})
	}
	return l
}

func sameSet(t *testing.T, what string, args any, got, want api.Bits) {
	t.Helper()
	if got != want {
		t.Errorf("%s(%v) = %x, want %x", what, args, got, want)
	}
}

func sameList(t *testing.T, what string, args any, got, want []int) {
	t.Helper()
	if !slices.Equal(got, want) {
		t.Errorf("%s(%v) = %v, want %v", what, args, got, want)
	}
}

// P2.1, by hand: which words make a set, of which numbers.
func TestOfByHand(t *testing.T) {
	for _, c := range []struct {
		l    []int
		want api.Bits
	}{
		{nil, api.Bits{}},
		{[]int{}, api.Bits{}},
		{[]int{0}, api.Bits{1}},
		{[]int{1}, api.Bits{2}},
		{[]int{63}, api.Bits{1 << 63}},
		{[]int{64}, api.Bits{0, 1}},
		{[]int{127}, api.Bits{0, 1 << 63}},
		{[]int{128}, api.Bits{0, 0, 1}},
		{[]int{191}, api.Bits{0, 0, 1 << 63}},
		{[]int{192}, api.Bits{0, 0, 0, 1}},
		{[]int{255}, api.Bits{0, 0, 0, 1 << 63}},
		{[]int{5, 3, 300, 3}, api.Bits{1<<5 | 1<<3}},
		{[]int{255, 192, 64, 0}, api.Bits{1, 1, 0, 1<<63 | 1}},
		{[]int{-1}, api.Bits{}},
		{[]int{256}, api.Bits{}},
		{[]int{-1, 7, 256}, api.Bits{1 << 7}},
		{[]int{7, 7, 7}, api.Bits{1 << 7}},
	} {
		sameSet(t, "Of", c.l, bits.Of(c.l...), c.want)
	}
	sameSet(t, "Of", "none", bits.Of(), api.Bits{})
	sameSet(t, "Of", outside(), bits.Of(outside()...), api.Bits{})
}

// P2.1, by hand: the chapter's example, and lists at the edges.
func TestListByHand(t *testing.T) {
	sameList(t, "List", "the example", bits.List(bits.Of(5, 3, 300, 3)), []int{3, 5})
	sameList(t, "List", "the empty set", bits.List(api.Bits{}), nil)
	sameList(t, "List", "single bits", bits.List(api.Bits{1<<63 | 1, 1, 2, 1 << 63}), []int{0, 63, 64, 129, 255})
	sameList(t, "List", "falling", bits.List(bits.Of(255, 192, 191, 128, 127, 64, 63, 0)), []int{0, 63, 64, 127, 128, 191, 192, 255})
}

// P2.1: With, Without and Has, of every set and every number that may be in one.
func TestOneNumber(t *testing.T) {
	for _, a := range sets() {
		for i := range 256 {
			m := modelOf(a)
			if got := bits.Has(a, i); got != m[i] {
				t.Errorf("Has(%x, %d) = %v, want %v", a, i, got, m[i])
			}
			m[i] = true
			if got := bits.With(a, i); got != m.set() {
				t.Errorf("With(%x, %d) = %x, want %x", a, i, got, m.set())
			}
			m[i] = false
			if got := bits.Without(a, i); got != m.set() {
				t.Errorf("Without(%x, %d) = %x, want %x", a, i, got, m.set())
			}
		}
	}
}

// P2.1 and Words: a number that is not from 0 to 255 is in no set, and changes none.
func TestNumbersOutside(t *testing.T) {
	for _, a := range sets() {
		for _, i := range outside() {
			if bits.Has(a, i) {
				t.Errorf("Has(%x, %d) = true, want false", a, i)
			}
			sameSet(t, "With", i, bits.With(a, i), a)
			sameSet(t, "Without", i, bits.Without(a, i), a)
		}
	}
}

// P2.1: And, Minus and Or, of every set with each fifth one, itself among them.
func TestPairs(t *testing.T) {
	all := sets()
	models := make([]model, len(all))
	for k, a := range all {
		models[k] = modelOf(a)
	}
	for k, a := range all {
		for n := k % 5; n < len(all); n += 5 {
			b, args := all[n], []api.Bits{a, all[n]}
			sameSet(t, "And", args, bits.And(a, b), joined(models[k], models[n], func(a, b bool) bool { return a && b }))
			sameSet(t, "Minus", args, bits.Minus(a, b), joined(models[k], models[n], func(a, b bool) bool { return a && !b }))
			sameSet(t, "Or", args, bits.Or(a, b), joined(models[k], models[n], func(a, b bool) bool { return a || b }))
		}
	}
}

// P2.1, by hand: sets together, of none, one and many.
func TestTogetherByHand(t *testing.T) {
	a, b := bits.Of(0, 63, 64, 255), bits.Of(63, 100)
	sameSet(t, "Or", "none", bits.Or(), api.Bits{})
	sameSet(t, "Or", "nil", bits.Or([]api.Bits(nil)...), api.Bits{})
	sameSet(t, "Or", "one", bits.Or(a), a)
	sameSet(t, "Or", "two", bits.Or(a, b), bits.Of(0, 63, 64, 100, 255))
	sameSet(t, "Or", "three", bits.Or(b, bits.Of(1), a), bits.Of(0, 1, 63, 64, 100, 255))
	sameSet(t, "Or", "empty ones", bits.Or(api.Bits{}, a, api.Bits{}), a)
	sameSet(t, "And", "two", bits.And(a, b), bits.Of(63))
	sameSet(t, "And", "empty", bits.And(a, api.Bits{}), api.Bits{})
	sameSet(t, "Minus", "two", bits.Minus(a, b), bits.Of(0, 64, 255))
	sameSet(t, "Minus", "the other way", bits.Minus(b, a), bits.Of(100))
	sameSet(t, "Minus", "itself", bits.Minus(a, a), api.Bits{})
	sameSet(t, "Minus", "of the empty set", bits.Minus(api.Bits{}, a), api.Bits{})
}

// P2.1: a row of sets, of every length up to 40.
func TestManyTogether(t *testing.T) {
	l := drawn()
	var m model
	for n := range 40 {
		sameSet(t, "Or", n, bits.Or(l[:n]...), m.set())
		for i, in := range modelOf(l[n]) {
			m[i] = m[i] || in
		}
	}
}

// P2.1: how many, and which; P2.2: a list makes its set, and a set its list.
func TestListsAndSets(t *testing.T) {
	for _, a := range sets() {
		want := modelOf(a).list()
		got := bits.List(a)
		sameList(t, "List", a, got, want)
		if n := bits.Len(a); n != len(want) {
			t.Errorf("Len(%x) = %d, want %d", a, n, len(want))
		}
		sameSet(t, "Of", got, bits.Of(got...), a)
	}
}

// P2.2: a list makes its set in whatever order, how often ever a number is told, and with what may be in none between.
func TestListsMakeTheirSets(t *testing.T) {
	for _, a := range sets() {
		l := modelOf(a).list()
		mixed := slices.Concat(outside(), l, l, outside())
		slices.Reverse(mixed)
		sameSet(t, "Of", mixed, bits.Of(mixed...), a)
		sameList(t, "List", a, bits.List(bits.Of(mixed...)), l)
	}
	sameList(t, "List", "the edges", bits.List(bits.Of(edges()...)), edges())
}

// R3: what is handed in stays as it is.
func TestArgumentsStay(t *testing.T) {
	numbers := slices.Concat(outside(), edges())
	keptNumbers := slices.Clone(numbers)
	bits.Of(numbers...)
	if !slices.Equal(numbers, keptNumbers) {
		t.Errorf("a list was changed: %v, was %v", numbers, keptNumbers)
	}
	all := sets()
	kept := slices.Clone(all)
	bits.Or(all...)
	for i := range all {
		bits.With(all[i], 5)
		bits.Without(all[i], 5)
		bits.And(all[i], api.Bits{})
		bits.Minus(all[i], all[i])
	}
	if !slices.Equal(all, kept) {
		t.Errorf("sets were changed")
	}
}

// R3 and R4: what is told is the caller's, and the same calls have the same answers.
func TestListsAreTheCallers(t *testing.T) {
	for _, a := range sets() {
		l := bits.List(a)
		want := slices.Clone(l)
		for i := range l {
			l[i] = -1
		}
		sameList(t, "List, again,", a, bits.List(a), want)
	}
}

// P1 and R5: a row may be long.
func TestLongRows(t *testing.T) {
	const n = 1 << 20
	l := make([]int, n)
	for i := range l {
		l[i] = (i-n/2)*3 + 1
	}
	var m model
	for _, i := range l {
		if i >= 0 && i < 256 {
			m[i] = true
		}
	}
	sameSet(t, "Of", "a long row", bits.Of(l...), m.set())
	rows := make([]api.Bits, n/16)
	rows[n/32] = bits.Of(7)
	rows[n/16-1] = bits.Of(255)
	sameSet(t, "Or", "a long row", bits.Or(rows...), bits.Of(7, 255))
}
