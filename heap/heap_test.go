package heap_test

import (
	"math"
	"runtime"
	"slices"
	"strings"
	"testing"
	"weak"

	"ostinato/heap"
)

// pair is a key and its number.
type pair[K comparable] struct {
	key K
	n   int64
}

// model is a heap told the plain way: a row in no order, gone through from its start.
type model[K comparable] struct {
	less func(a, b K) bool
	l    []pair[K]
}

func (m *model[K]) find(key K) int {
	return slices.IndexFunc(m.l, func(p pair[K]) bool { return p.key == key })
}

func (m *model[K]) put(key K, n int64) bool {
	if m.find(key) >= 0 {
		return false
	}
	m.l = append(m.l, pair[K]{key, n})
	return true
}

func (m *model[K]) lower(key K, n int64) bool {
	i := m.find(key)
	if i < 0 || !(m.l[i].n > n) {
		return false
	}
	m.l[i].n = n
	return true
}

func (m *model[K]) drop(key K) bool {
	i := m.find(key)
	if i < 0 {
		return false
	}
	m.l = slices.Delete(m.l, i, i+1)
	return true
}

func (m *model[K]) get(key K) (int64, bool) {
	i := m.find(key)
	if i < 0 {
		return 0, false
	}
	return m.l[i].n, true
}

// sorted are all, the one ahead of all others first.
func (m *model[K]) sorted() []pair[K] {
	l := slices.Clone(m.l)
	slices.SortFunc(l, func(a, b pair[K]) int {
		switch {
		case a.n < b.n || a.n == b.n && m.less(a.key, b.key):
			return -1
		case a.key == b.key:
			return 0
		}
		return 1
	})
	return l
}

func (m *model[K]) min() (K, int64, bool) {
	var none pair[K]
	if len(m.l) == 0 {
		return none.key, none.n, false
	}
	p := m.sorted()[0]
	return p.key, p.n, true
}

func (m *model[K]) take() (K, int64, bool) {
	key, n, some := m.min()
	if some {
		m.drop(key)
	}
	return key, n, some
}

func (m *model[K]) keys() []K {
	var l []K
	for _, p := range m.sorted() {
		l = append(l, p.key)
	}
	return l
}

// both are a heap and its model, that are asked the same.
type both[K comparable] struct {
	t *testing.T
	h *heap.Heap[K]
	m *model[K]
}

func newBoth[K comparable](t *testing.T, less func(a, b K) bool) both[K] {
	return both[K]{t, heap.New(less), &model[K]{less: less}}
}

func (b both[K]) same(what string, got, want bool) {
	b.t.Helper()
	if got != want {
		b.t.Fatalf("%s: %v, want %v, of %v", what, got, want, b.m.l)
	}
}

func (b both[K]) sameFirst(what string, got func() (K, int64, bool), want func() (K, int64, bool)) {
	b.t.Helper()
	key, n, some := got()
	wantKey, wantN, wantSome := want()
	if key != wantKey || n != wantN || some != wantSome {
		b.t.Fatalf("%s: %v %d %v, want %v %d %v, of %v", what, key, n, some, wantKey, wantN, wantSome, b.m.l)
	}
}

func (b both[K]) put(key K, n int64) {
	b.t.Helper()
	b.same("Put", b.h.Put(key, n), b.m.put(key, n))
}

func (b both[K]) lower(key K, n int64) {
	b.t.Helper()
	b.same("Lower", b.h.Lower(key, n), b.m.lower(key, n))
}

func (b both[K]) drop(key K) {
	b.t.Helper()
	b.same("Drop", b.h.Drop(key), b.m.drop(key))
}

func (b both[K]) take() {
	b.t.Helper()
	b.sameFirst("Take", b.h.Take, b.m.take)
}

// look holds all that is told without a change, of all keys that might be there.
func (b both[K]) look(all []K) {
	b.t.Helper()
	for _, key := range all {
		n, there := b.h.Get(key)
		if wantN, wantThere := b.m.get(key); n != wantN || there != wantThere {
			b.t.Fatalf("Get(%v): %d %v, want %d %v, of %v", key, n, there, wantN, wantThere, b.m.l)
		}
	}
	if got, want := b.h.Len(), len(b.m.l); got != want {
		b.t.Fatalf("Len: %d, want %d", got, want)
	}
	b.sameFirst("Min", b.h.Min, b.m.min)
	if got, want := b.h.Keys(), b.m.keys(); !slices.Equal(got, want) {
		b.t.Fatalf("Keys: %v, want %v, of %v", got, want, b.m.l)
	}
}

// drawer tells numbers below n, the same ones at every start.
func drawer() func(n int) int {
	x := uint64(88172645463325252)
	return func(n int) int {
		x ^= x << 13
		x ^= x >> 7
		x ^= x << 17
		return int(x>>1) % n
	}
}

func byLetters(a, b string) bool { return strings.Compare(a, b) < 0 }
func rising(a, b int) bool       { return a < b }
func falling(a, b int) bool      { return a > b }

// told are a heap's keys and numbers in the order in which they are taken; it is empty then.
func told[K comparable](h *heap.Heap[K]) []pair[K] {
	var l []pair[K]
	for {
		key, n, some := h.Take()
		if !some {
			return l
		}
		l = append(l, pair[K]{key, n})
	}
}

func sameKeys[K comparable](t *testing.T, what string, got []K, want ...K) {
	t.Helper()
	if !slices.Equal(got, want) {
		t.Errorf("%s: %v, want %v", what, got, want)
	}
}

// The chapter's example.
func TestExample(t *testing.T) {
	h := heap.New(byLetters)
	h.Put("a", 3)
	h.Put("b", 5)
	h.Lower("b", 1)
	if key, n, some := h.Take(); key != "b" || n != 1 || !some {
		t.Errorf("Take: %q %d %v, want b 1 true", key, n, some)
	}
}

// P3.1: New tells an empty heap; nil, if less is nil.
func TestNew(t *testing.T) {
	if heap.New[string](nil) != nil || heap.New[int](nil) != nil {
		t.Error("New(nil) is no nil heap")
	}
	h := heap.New(byLetters)
	if h == nil {
		t.Fatal("New(less) is nil")
	}
	empty(t, "a new heap", h, "a")
}

// empty holds what a heap without keys tells: zero values beside a false.
func empty[K comparable](t *testing.T, what string, h *heap.Heap[K], some K) {
	t.Helper()
	var zero K
	if h.Len() != 0 || len(h.Keys()) != 0 {
		t.Errorf("%s has %d keys: %v", what, h.Len(), h.Keys())
	}
	if key, n, is := h.Min(); key != zero || n != 0 || is {
		t.Errorf("%s: Min is %v %d %v", what, key, n, is)
	}
	if key, n, is := h.Take(); key != zero || n != 0 || is {
		t.Errorf("%s: Take is %v %d %v", what, key, n, is)
	}
	if n, is := h.Get(some); n != 0 || is {
		t.Errorf("%s: Get is %d %v", what, n, is)
	}
	if h.Drop(some) || h.Lower(some, math.MinInt64) {
		t.Errorf("%s drops or lowers a key", what)
	}
}

// The rule for a nil heap: no; nothing; 0. One that New did not make has no less, and is none either.
func TestNoHeap(t *testing.T) {
	var none *heap.Heap[string]
	var made heap.Heap[string]
	for _, h := range []*heap.Heap[string]{none, heap.New[string](nil), &made, new(heap.Heap[string])} {
		for _, key := range []string{"", "a"} {
			empty(t, "no heap", h, key)
			if h.Put(key, 1) || h.Put(key, math.MinInt64) {
				t.Error("no heap takes a key in")
			}
			empty(t, "no heap, behind Put,", h, key)
		}
	}
}

// P3.1, by hand: what each call answers of a key that is there, and of one that is not.
func TestKeysByHand(t *testing.T) {
	h := heap.New(byLetters)
	step := func(what string, got, want bool, key string, n int64, there bool, many int) {
		t.Helper()
		if got != want {
			t.Errorf("%s: %v, want %v", what, got, want)
		}
		holds(t, what, h, key, n, there, many)
	}
	step("put a", h.Put("a", 3), true, "a", 3, true, 1)
	step("put a again", h.Put("a", 3), false, "a", 3, true, 1)
	step("put a with less", h.Put("a", 1), false, "a", 3, true, 1)
	step("put a with more", h.Put("a", 9), false, "a", 3, true, 1)
	step("lower a to more", h.Lower("a", 4), false, "a", 3, true, 1)
	step("lower a to the same", h.Lower("a", 3), false, "a", 3, true, 1)
	step("lower a to one less", h.Lower("a", 2), true, "a", 2, true, 1)
	step("lower a to the least", h.Lower("a", math.MinInt64), true, "a", math.MinInt64, true, 1)
	step("lower a below the least", h.Lower("a", math.MinInt64), false, "a", math.MinInt64, true, 1)
	step("lower b", h.Lower("b", 0), false, "b", 0, false, 1)
	step("drop b", h.Drop("b"), false, "b", 0, false, 1)
	step("put b", h.Put("b", math.MaxInt64), true, "b", math.MaxInt64, true, 2)
	step("lower b to the greatest", h.Lower("b", math.MaxInt64), false, "b", math.MaxInt64, true, 2)
	step("lower b across 0", h.Lower("b", -5), true, "b", -5, true, 2)
	step("put the zero key", h.Put("", 0), true, "", 0, true, 3)
	step("drop a", h.Drop("a"), true, "a", 0, false, 2)
	step("drop a again", h.Drop("a"), false, "a", 0, false, 2)
	step("put a once more", h.Put("a", 7), true, "a", 7, true, 3)
	step("drop the zero key", h.Drop(""), true, "", 0, false, 2)
	sameKeys(t, "Keys", h.Keys(), "b", "a")
}

func holds(t *testing.T, what string, h *heap.Heap[string], key string, n int64, there bool, many int) {
	t.Helper()
	if got, is := h.Get(key); got != n || is != there {
		t.Errorf("%s: Get(%q) is %d %v, want %d %v", what, key, got, is, n, there)
	}
	if h.Len() != many {
		t.Errorf("%s: Len is %d, want %d", what, h.Len(), many)
	}
}

// P3.2, by hand: the lesser number first; of the same one, whom less puts first.
func TestOrderByHand(t *testing.T) {
	h := heap.New(byLetters)
	for _, p := range []pair[string]{{"c", 2}, {"z", -1}, {"a", 2}, {"m", math.MaxInt64}, {"b", 2}, {"n", math.MinInt64}, {"", 2}} {
		h.Put(p.key, p.n)
	}
	want := []pair[string]{{"n", math.MinInt64}, {"z", -1}, {"", 2}, {"a", 2}, {"b", 2}, {"c", 2}, {"m", math.MaxInt64}}
	sameKeys(t, "Keys", h.Keys(), "n", "z", "", "a", "b", "c", "m")
	if key, n, some := h.Min(); key != "n" || n != math.MinInt64 || !some {
		t.Errorf("Min: %q %d %v", key, n, some)
	}
	if h.Len() != 7 {
		t.Errorf("Min or Keys took a key: %d are left", h.Len())
	}
	if got := told(h); !slices.Equal(got, want) {
		t.Errorf("taken: %v, want %v", got, want)
	}
	empty(t, "a heap of which all was taken", h, "a")
}

// P3.2: it is less that orders keys of one number, whatever way it goes.
func TestLessOrders(t *testing.T) {
	up, down := heap.New(rising), heap.New(falling)
	for _, key := range []int{4, 1, 3, 5, 2, 0} {
		up.Put(key, 7)
		down.Put(key, 7)
	}
	sameKeys(t, "rising", up.Keys(), 0, 1, 2, 3, 4, 5)
	sameKeys(t, "falling", down.Keys(), 5, 4, 3, 2, 1, 0)
	up.Lower(3, 6)
	down.Lower(3, 6)
	sameKeys(t, "rising, 3 first", up.Keys(), 3, 0, 1, 2, 4, 5)
	sameKeys(t, "falling, 3 first", down.Keys(), 3, 5, 4, 2, 1, 0)
}

// P3.1 and P3.2: each row of up to 7 calls of few keys and numbers, first those that put keys in.
func TestAllShortRows(t *testing.T) {
	for keys := range 5 {
		for numbers := range pow(3, keys) {
			for calls := range pow(8, 3) {
				shortRow(t, keys, numbers, calls)
			}
		}
	}
}

func pow(a, n int) int {
	p := 1
	for range n {
		p *= a
	}
	return p
}

// shortRow puts keys from 0 on, whose numbers are the digits of numbers, and makes three calls, the digits of calls.
func shortRow(t *testing.T, keys, numbers, calls int) {
	t.Helper()
	b := newBoth(t, falling)
	for key := range keys {
		b.put(key, int64(numbers%3))
		numbers /= 3
	}
	for range 3 {
		switch call := calls % 8; call {
		case 0, 1, 2:
			b.drop(call)
		case 3, 4, 5:
			b.lower(call-2, int64(5-call))
		case 6:
			b.take()
		case 7:
			b.put(keys, 1)
		}
		calls /= 8
	}
	b.look([]int{-1, 0, 1, 2, 3, 4, 5})
}

// P3.1 and P3.2: drawn calls, held against the model at every one; few numbers, so that less has much to say, and the farthest ones.
func TestDrawnCalls(t *testing.T) {
	draw := drawer()
	numbers := []int64{0, 1, 2, 3, -1, math.MinInt64, math.MinInt64 + 1, math.MaxInt64, math.MaxInt64 - 1, 1 << 40}
	for _, many := range []int{1, 2, 3, 7, 15, 16, 40} {
		all := make([]int, many)
		for i := range all {
			all[i] = i*i - 20
		}
		for _, less := range []func(a, b int) bool{rising, falling} {
			b := newBoth(t, less)
			for range 1500 {
				drawnCall(b, draw, all[draw(many)], numbers[draw(len(numbers))])
				b.look(all)
			}
			for b.h.Len() > 0 {
				b.take()
			}
			b.look(all)
		}
	}
}

func drawnCall(b both[int], draw func(int) int, key int, n int64) {
	b.t.Helper()
	switch draw(8) {
	case 0, 1, 2:
		b.put(key, n)
	case 3, 4:
		b.lower(key, n)
	case 5:
		b.drop(key)
	case 6:
		b.take()
	case 7:
		b.lower(key, n/2)
	}
}

// P3.2: each key of a greater heap dropped in turn: the one that fills its place may have to go either way. Keys behind it, put in then, keep it from being moved again.
func TestDropEach(t *testing.T) {
	draw := drawer()
	for many := 1; many <= 20; many++ {
		for range 10 {
			numbers := make([]int64, many)
			for i := range numbers {
				numbers[i] = int64(draw(2 * many))
			}
			for key := range many {
				dropOne(t, numbers, key)
			}
		}
	}
}

// dropOne puts keys from 0 on, with numbers, drops key, and puts as many with greater numbers.
func dropOne(t *testing.T, numbers []int64, key int) {
	t.Helper()
	b := newBoth(t, rising)
	var all []int
	for i, n := range numbers {
		b.put(i, n)
		all = append(all, i)
	}
	b.drop(key)
	b.look(all)
	for i := range numbers {
		b.put(len(numbers)+i, int64(2*len(numbers)+i))
	}
	b.look(all)
	for b.h.Len() > 0 {
		b.take()
	}
}

// Words: a key is whatever Go holds against another one: structs, arrays, pointers and interfaces too.
func TestKindsOfKeys(t *testing.T) {
	type job struct {
		task    int
		release int64
	}
	jobs := heap.New(func(a, b job) bool { return a.task < b.task })
	put := []bool{jobs.Put(job{2, 0}, 5), jobs.Put(job{1, 0}, 5), jobs.Put(job{2, 0}, 1), jobs.Put(job{3, 1}, 4)}
	sameKeys(t, "put", put, true, true, false, true)
	sameKeys(t, "structs", jobs.Keys(), job{3, 1}, job{1, 0}, job{2, 0})

	arrays := heap.New(func(a, b [2]int) bool { return a[1] < b[1] })
	arrays.Put([2]int{0, 2}, 0)
	arrays.Put([2]int{1, 1}, 0)
	sameKeys(t, "arrays", arrays.Keys(), [2]int{1, 1}, [2]int{0, 2})

	x, y := 2, 1
	pointers := heap.New(func(a, b *int) bool { return *a < *b })
	pointers.Put(&x, 1)
	pointers.Put(&y, 1)
	sameKeys(t, "pointers", pointers.Keys(), &y, &x)

	anys := heap.New(func(a, b any) bool { return false })
	anys.Put(nil, 3)
	anys.Put("a", 2)
	anys.Put(1, 1)
	anys.Put(int64(1), 0)
	sameKeys(t, "interfaces", anys.Keys(), any(int64(1)), any(1), any("a"), any(nil))
}

// P1: what can't be held against anything is in no heap, and none takes it in.
func TestKeysThatCannotBeHeld(t *testing.T) {
	type row struct {
		name string
		what any
	}
	h := heap.New(func(a, b any) bool { return false })
	for _, full := range []bool{false, true} {
		for _, key := range []any{[]int{1}, map[int]int{}, func() {}, row{"a", []int(nil)}, [1]any{[]int{}}} {
			if h.Put(key, 1) || h.Lower(key, -1) || h.Drop(key) {
				t.Errorf("%T: a key that can't be held was taken in", key)
			}
			if n, there := h.Get(key); n != 0 || there {
				t.Errorf("%T: Get is %d %v", key, n, there)
			}
		}
		if got := h.Len() == 2; got != full {
			t.Errorf("the heap has %d keys", h.Len())
		}
		h.Put("a", 2)
		h.Put(row{"a", 1}, 1)
	}
	sameKeys(t, "Keys", h.Keys(), any(row{"a", 1}), any("a"))
}

// Words: one that is not the same as itself is found by nobody, but it has its number, and its turn.
func TestFloats(t *testing.T) {
	h := heap.New(func(a, b float64) bool { return a < b })
	no := math.NaN()
	put := []bool{h.Put(2, 2), h.Put(no, 1), h.Put(1, 2), h.Put(math.Copysign(0, -1), 0), h.Put(0, 9), h.Put(no, 3)}
	sameKeys(t, "Put", put, true, true, true, true, false, true)
	if n, there := h.Get(no); n != 0 || there || h.Lower(no, -9) || h.Drop(no) {
		t.Errorf("Get, Lower or Drop found what is not the same as itself: %d %v", n, there)
	}
	var numbers []int64
	for _, p := range told(h) {
		numbers = append(numbers, p.n)
	}
	if !slices.Equal(numbers, []int64{0, 1, 2, 2, 3}) {
		t.Errorf("taken: %v", numbers)
	}
	empty(t, "a heap of floats of which all was taken", h, 1)
}

// Words and P1: of a less that is no order the calls end, none panics, and each key is there once till it is gone.
func TestWrongLess(t *testing.T) {
	draw := drawer()
	for what, less := range map[string]func(a, b int) bool{
		"always":  func(a, b int) bool { return true },
		"never":   func(a, b int) bool { return false },
		"drawn":   func(a, b int) bool { return draw(2) == 0 },
		"round":   func(a, b int) bool { return (b-a+30)%3 == 1 },
		"panics":  func(a, b int) bool { panic("no order") },
		"at some": func(a, b int) bool { return a/(b%3) < b },
	} {
		h := heap.New(less)
		for key := range 40 {
			if !h.Put(key, int64(key%2)) || h.Put(key, -1) {
				t.Errorf("%s: Put of %d", what, key)
			}
		}
		for key := range 40 {
			if key%4 == 0 && (!h.Drop(key) || h.Drop(key) || !h.Put(key, 1)) {
				t.Errorf("%s: Drop of %d", what, key)
			}
			if key%3 == 0 && !h.Lower(key, -1) {
				t.Errorf("%s: Lower of %d", what, key)
			}
		}
		keys := h.Keys()
		slices.Sort(keys)
		if len(keys) != 40 || len(slices.Compact(keys)) != 40 {
			t.Errorf("%s: Keys are %v", what, keys)
		}
		if l := told(h); len(l) != 40 {
			t.Errorf("%s: %d were taken", what, len(l))
		}
		empty(t, what, h, 1)
	}
}

// P1: not even a less that asks, and changes, the heap itself makes a call panic.
func TestLessThatCallsBack(t *testing.T) {
	var h *heap.Heap[int]
	left := 0
	h = heap.New(func(a, b int) bool {
		h.Get(a)
		h.Get(b)
		if left > 0 {
			left--
			h.Take()
			h.Drop(b)
			h.Keys()
		}
		return a > b
	})
	for round := range 60 {
		for key := range 20 {
			h.Put(key, 0)
		}
		left = round
		h.Put(100+round, 0)
		h.Drop(round % 20)
		h.Take()
		h.Lower(19, -1)
		h.Keys()
		left = 0
		for n := h.Len(); n > 0; n-- {
			if _, _, some := h.Take(); !some || h.Len() != n-1 {
				t.Fatalf("round %d: Take behind what less did: %d are left of %d", round, h.Len(), n)
			}
		}
		empty(t, "a heap that its less changed", h, 1)
	}
}

// R3: what Keys tells is the caller's, and the heap's rows stay what they are.
func TestKeysAreTheCallers(t *testing.T) {
	h := heap.New(byLetters)
	for i, key := range []string{"d", "a", "c", "b", "e"} {
		h.Put(key, int64(i/2))
	}
	first := h.Keys()
	kept := slices.Clone(first)
	for i := range first {
		first[i] = "x"
	}
	first = append(first, "y")
	sameKeys(t, "Keys, again,", h.Keys(), kept...)
	second := h.Keys()
	h.Take()
	h.Drop("e")
	h.Put("f", -1)
	h.Put("g", -2)
	sameKeys(t, "Keys, that were told before,", second, kept...)
	sameKeys(t, "Keys", h.Keys(), "g", "f", "d", "b", "c")
}

// R3: two heaps have nothing in common, though their less is the same.
func TestHeapsAreApart(t *testing.T) {
	a, b := heap.New(rising), heap.New(rising)
	for key := range 9 {
		a.Put(key, 1)
	}
	empty(t, "another heap", b, 1)
	b.Put(3, 0)
	a.Drop(3)
	if n, there := b.Get(3); n != 0 || !there || b.Len() != 1 || a.Len() != 8 {
		t.Errorf("one heap changed the other: %d %v, %d and %d keys", n, there, b.Len(), a.Len())
	}
}

// R4: the same calls have the same answers, even where less orders nothing.
func TestSameCallsSameAnswers(t *testing.T) {
	var before []int
	for round := range 5 {
		h := heap.New(func(a, b int) bool { return false })
		for key := range 50 {
			h.Put(key*7%50, int64(key%3))
		}
		for key := range 10 {
			h.Drop(key * 5)
			h.Lower(key*3, 0)
		}
		keys := h.Keys()
		var taken []int
		for _, p := range told(h) {
			taken = append(taken, p.key)
		}
		sameKeys(t, "Keys, against those that are taken,", keys, taken...)
		if round > 0 {
			sameKeys(t, "Keys, against the round before,", keys, before...)
		}
		before = keys
	}
}

// R3: a heap keeps nothing of a key that is gone.
func TestNothingIsKeptOfWhatIsGone(t *testing.T) {
	h := heap.New(func(a, b *[64]int) bool { return a[0] < b[0] })
	var gone []weak.Pointer[[64]int]
	for i := range 9 {
		key := &[64]int{i}
		h.Put(key, 0)
		gone = append(gone, weak.Make(key))
		if i%2 == 0 {
			h.Drop(key)
		}
	}
	for h.Len() > 0 {
		h.Take()
	}
	runtime.GC()
	for i, key := range gone {
		if key.Value() != nil {
			t.Errorf("key %d is gone, but kept", i)
		}
	}
	runtime.KeepAlive(h)
}

// R3: nor of one that is not the same as itself.
func TestNothingIsKeptOfFloatsThatAreGone(t *testing.T) {
	held := func() uint64 {
		var m runtime.MemStats
		runtime.GC()
		runtime.ReadMemStats(&m)
		return m.HeapAlloc
	}
	h := heap.New(func(a, b float64) bool { return false })
	before := held()
	for range 1 << 20 {
		h.Put(math.NaN(), 1)
		h.Take()
	}
	if after := held(); after > before+1<<22 {
		t.Errorf("%d bytes are held, %d before", after, before)
	}
	runtime.KeepAlive(h)
}

// R5: many keys, put rising and falling, lowered, dropped and taken.
func TestManyKeys(t *testing.T) {
	const n = 1 << 17
	h := heap.New(rising)
	for i := range n {
		h.Put(i*5%n, int64(n-i))
	}
	for key := 0; key < n; key += 3 {
		h.Lower(key, int64(-key))
	}
	for key := 1; key < n; key += 3 {
		h.Drop(key)
	}
	keys := h.Keys()
	if len(keys) != h.Len() || h.Len() != n-(n+1)/3 {
		t.Fatalf("%d keys of %d", len(keys), h.Len())
	}
	last := int64(math.MinInt64)
	for i, p := range told(h) {
		if p.key != keys[i] || p.n < last {
			t.Fatalf("the key at %d: %d with %d behind %d, want %d", i, p.key, p.n, last, keys[i])
		}
		last = p.n
	}
	empty(t, "a heap of which all was taken", h, 3)
}
