package post_test

import (
	"fmt"
	"math"
	"slices"
	"sync"
	"testing"
	"time"

	"ostinato/api"
	"ostinato/post"
)

// model is a box told the plain way: a row, and how much room there is in all.
type model struct {
	l    []api.Ask
	size int
	shut bool
}

func (m *model) put(a api.Ask) bool {
	if m.room() == 0 {
		return false
	}
	m.l = append(m.l, a)
	return true
}

func (m *model) take() (api.Ask, bool) {
	if len(m.l) == 0 {
		return api.Ask{}, false
	}
	return m.drain(1)[0], true
}

func (m *model) drain(most int) []api.Ask {
	var taken []api.Ask
	for len(m.l) > 0 && len(taken) < most {
		taken = append(taken, m.l[0])
		m.l = slices.Delete(m.l, 0, 1)
	}
	return taken
}

func (m *model) move(to *model, most int) int {
	moved := 0
	for to != m && len(m.l) > 0 && to.room() > 0 && moved < most {
		a, _ := m.take()
		to.put(a)
		moved++
	}
	return moved
}

func (m *model) shuts() bool {
	open := !m.shut
	m.shut = true
	return open
}

func (m *model) room() int {
	if m.shut {
		return 0
	}
	return m.size - len(m.l)
}

// pair is a box and its model, that are asked the same.
type pair struct {
	b *post.Box
	m *model
}

func newPair(n int) pair {
	return pair{post.New(n), &model{size: n}}
}

// told writes down what was told, so that it can be held against what ought to be.
func told(what ...any) string { return fmt.Sprint(what...) }

func same(t *testing.T, what, got, want string) {
	t.Helper()
	if got != want {
		t.Fatalf("%s: %s, want %s", what, got, want)
	}
}

// look holds all that is told without a change.
func (p pair) look(t *testing.T, what string) {
	t.Helper()
	same(t, what+": Len, Room, Open", told(p.b.Len(), p.b.Room(), p.b.Open()), told(len(p.m.l), p.m.room(), !p.m.shut))
}

// step asks both the same: one of eight calls, with a number beside it; the other box is the one that Move moves to.
func (p pair) step(t *testing.T, call int, n int, other pair) {
	t.Helper()
	a := api.Ask{Task: n, Demand: int64(call)}
	switch call {
	case 0, 1, 2:
		same(t, told("Put ", a), told(p.b.Put(a)), told(p.m.put(a)))
	case 3:
		got, some := p.b.Take()
		want, wantSome := p.m.take()
		same(t, "Take", told(got, some), told(want, wantSome))
	case 4:
		same(t, told("Drain ", n), told(p.b.Drain(n)), told(p.m.drain(n)))
	case 5:
		same(t, told("Move ", n), told(p.b.Move(other.b, n)), told(p.m.move(other.m, n)))
	case 6:
		same(t, "Shut", told(p.b.Shut()), told(p.m.shuts()))
	case 7:
		same(t, told("Move to itself ", n), told(p.b.Move(p.b, n)), told(p.m.move(p.m, n)))
	}
	p.look(t, told("behind call ", call))
	other.look(t, told("the other box, behind call ", call))
}

// drawer tells numbers below n, the same ones at every start.
func drawer() func(n int) int {
	x := uint64(88172645463325252)
	return func(n int) int {
		x ^= x << 13
		x ^= x >> 7
		x ^= x << 17
		return int(x>>1) % n
	}
}

// asks are the requests from 0 on, told apart by both their fields.
func asks(from, to int) []api.Ask {
	var l []api.Ask
	for i := from; i < to; i++ {
		l = append(l, api.Ask{Task: i, Demand: int64(-i)})
	}
	return l
}

// filled is a box with room for n, in which those of l wait.
func filled(t *testing.T, n int, l ...api.Ask) *post.Box {
	t.Helper()
	b := post.New(n)
	for _, a := range l {
		if !b.Put(a) {
			t.Fatalf("a box with room for %d takes no %v in", n, a)
		}
	}
	return b
}

// is holds what waits in a box, by taking it, and what room there is when it was taken.
func is(t *testing.T, what string, b *post.Box, room int, want ...api.Ask) {
	t.Helper()
	if b.Len() != len(want) {
		t.Errorf("%s: %d wait, want %d", what, b.Len(), len(want))
	}
	for i, w := range want {
		if a, some := b.Take(); a != w || !some {
			t.Errorf("%s: Take %d: %v %v, want %v", what, i, a, some, w)
		}
	}
	empty(t, what, b)
	if b.Room() != room {
		t.Errorf("%s: room for %d, want %d", what, b.Room(), room)
	}
}

// empty holds what a box tells in which none waits: zero values beside a false.
func empty(t *testing.T, what string, b *post.Box) {
	t.Helper()
	if b.Len() != 0 {
		t.Errorf("%s: %d wait", what, b.Len())
	}
	if a, some := b.Take(); a != (api.Ask{}) || some {
		t.Errorf("%s: Take is %v %v", what, a, some)
	}
	if l := b.Drain(9); len(l) != 0 {
		t.Errorf("%s: Drain is %v", what, l)
	}
	if n := b.Move(post.New(9), 9); n != 0 {
		t.Errorf("%s: Move is %d", what, n)
	}
}

// The chapter's example.
func TestExample(t *testing.T) {
	a, b := api.Ask{Task: 1, Demand: 2}, api.Ask{Task: 2, Demand: 1}
	box := post.New(1)
	if first, second := box.Put(a), box.Put(b); !first || second {
		t.Errorf("Put, Put: %v %v, want true false", first, second)
	}
	if got, some := box.Take(); got != a || !some {
		t.Errorf("Take: %v %v, want %v true", got, some, a)
	}
	is(t, "the example's box", box, 1)
}

// P4.1: New tells an empty box from 1 to 1000; nil beside that.
func TestNew(t *testing.T) {
	for _, n := range []int{math.MinInt, math.MinInt + 1, -1 << 32, -1000, -2, -1, 0, 1001, 1002, 1 << 16, 1 << 31, 1<<32 + 1, math.MaxInt} {
		if post.New(n) != nil {
			t.Errorf("New(%d) is a box", n)
		}
	}
	for n := 1; n <= 1000; n++ {
		b := post.New(n)
		if b == nil {
			t.Fatalf("New(%d) is nil", n)
		}
		if b.Len() != 0 || b.Room() != n || !b.Open() {
			t.Errorf("New(%d): Len %d, Room %d, Open %v", n, b.Len(), b.Room(), b.Open())
		}
		empty(t, told("New ", n), b)
	}
}

// P4.1: each box has just the room that New was asked for.
func TestRoom(t *testing.T) {
	for _, n := range []int{1, 2, 3, 63, 64, 65, 999, 1000} {
		b := post.New(n)
		for i, a := range asks(0, n) {
			if !b.Put(a) || b.Len() != i+1 || b.Room() != n-i-1 {
				t.Fatalf("room for %d, put %d: Len %d, Room %d", n, i, b.Len(), b.Room())
			}
		}
		for range 3 {
			if b.Put(api.Ask{Task: -1}) || b.Len() != n || b.Room() != 0 || !b.Open() {
				t.Errorf("room for %d, full: Len %d, Room %d, Open %v", n, b.Len(), b.Room(), b.Open())
			}
		}
		is(t, "a full box", b, n, asks(0, n)...)
	}
}

// The rule for a nil box: no; nothing; 0. One that New did not make has no room, and is none either.
func TestNoBox(t *testing.T) {
	var none *post.Box
	var made post.Box
	for _, b := range []*post.Box{none, post.New(0), post.New(1001), &made, new(post.Box)} {
		for range 2 {
			if b.Put(api.Ask{}) || b.Put(api.Ask{Task: 1, Demand: 1}) {
				t.Error("no box takes a request in")
			}
			empty(t, "no box", b)
			if b.Room() != 0 || b.Open() || b.Shut() {
				t.Errorf("no box: Room %d, Open %v", b.Room(), b.Open())
			}
			for _, most := range []int{math.MinInt, -1, 0, 1, math.MaxInt} {
				noBoxMoves(t, b, most)
			}
		}
	}
}

// noBoxMoves holds that b, that is no box, gives nothing and takes nothing.
func noBoxMoves(t *testing.T, b *post.Box, most int) {
	t.Helper()
	some := filled(t, 5, asks(0, 3)...)
	if len(b.Drain(most)) != 0 || b.Move(some, most) != 0 || some.Move(b, most) != 0 || b.Move(b, most) != 0 || b.Move(nil, most) != 0 {
		t.Errorf("no box moves something, of at most %d", most)
	}
	is(t, "a box beside no box", some, 5, asks(0, 3)...)
}

// P4.1, by hand: they are taken in the order in which they were put, whatever they are, same ones too.
func TestOrderByHand(t *testing.T) {
	odd := []api.Ask{{Task: 2, Demand: 9}, {}, {Task: 2, Demand: 9}, {Task: math.MinInt, Demand: math.MaxInt64}, {}, {Task: -1, Demand: math.MinInt64}, {Task: 1, Demand: 0}, {Task: 0, Demand: 1}}
	is(t, "odd requests", filled(t, 8, odd...), 8, odd...)
	if got := filled(t, 9, odd...).Drain(9); !slices.Equal(got, odd) {
		t.Errorf("Drain: %v, want %v", got, odd)
	}
	b := post.New(2)
	for i, a := range asks(0, 50) { // around and around
		b.Put(a)
		if i > 0 {
			if first, some := b.Take(); first.Task != i-1 || !some {
				t.Fatalf("Take: %v %v, want %d", first, some, i-1)
			}
		}
		if b.Len() != 1 || b.Room() != 1 {
			t.Fatalf("Len %d, Room %d, want 1 1", b.Len(), b.Room())
		}
	}
	is(t, "the last one", b, 2, asks(49, 50)...)
}

// P4.1: a zero request that waits is told with true.
func TestZeroRequest(t *testing.T) {
	b := filled(t, 1, api.Ask{})
	if b.Len() != 1 || b.Room() != 0 {
		t.Errorf("a zero request: Len %d, Room %d", b.Len(), b.Room())
	}
	if a, some := b.Take(); a != (api.Ask{}) || !some {
		t.Errorf("Take: %v %v, want a zero request, and true", a, some)
	}
	is(t, "its box", b, 1)
}

// P4.2: at most so many are drained, in order; what is behind them waits on.
func TestDrain(t *testing.T) {
	for _, size := range []int{4, 5, 1000} {
		for most, many := range map[int]int{math.MinInt: 0, -1000: 0, -1: 0, 0: 0, 1: 1, 2: 2, 3: 3, 4: 4, 5: 4, 1000: 4, 1001: 4, 1 << 32: 4, math.MaxInt: 4} {
			b := filled(t, size, asks(0, 4)...)
			if got := b.Drain(most); !slices.Equal(got, asks(0, many)) {
				t.Errorf("Drain(%d): %v, want %v", most, got, asks(0, many))
			}
			if b.Room() != size-4+many {
				t.Errorf("behind Drain(%d): Room %d", most, b.Room())
			}
			is(t, told("behind Drain ", most), b, size, asks(many, 4)...)
		}
	}
	full := filled(t, 1000, asks(0, 1000)...)
	if got := full.Drain(math.MaxInt); !slices.Equal(got, asks(0, 1000)) {
		t.Errorf("Drain of a full box: %d", len(got))
	}
	is(t, "a full box, drained", full, 1000)
}

// P4.2: the first ones are moved, as many as there are, may be, and have room, behind those that are there.
func TestMove(t *testing.T) {
	for there := range 5 {
		for size := max(1, there); size < 9; size++ {
			for waiting := range 5 {
				for _, most := range []int{math.MinInt, -1, 0, 1, 2, 3, 4, 5, 1000, 1 << 32, math.MaxInt} {
					from, to := filled(t, 6, asks(0, waiting)...), filled(t, size, asks(100, 100+there)...)
					want := max(0, min(most, waiting, size-there))
					if got := from.Move(to, most); got != want {
						t.Fatalf("Move of %d, at most %d, to %d of %d: %d, want %d", waiting, most, there, size, got, want)
					}
					is(t, "what was left", from, 6, asks(want, waiting)...)
					is(t, "what was there, and came", to, size, append(asks(100, 100+there), asks(0, want)...)...)
				}
			}
		}
	}
	from, to := filled(t, 1000, asks(0, 1000)...), post.New(1000)
	if got := from.Move(to, math.MaxInt); got != 1000 {
		t.Errorf("Move of all: %d", got)
	}
	is(t, "a full box, moved", from, 1000)
	is(t, "the box it was moved to", to, 1000, asks(0, 1000)...)
}

// P4.2: nothing is moved to no box, to a shut one, or to the box itself; all waits on, in order.
func TestMoveToNone(t *testing.T) {
	for _, most := range []int{-1, 0, 1, 2, 3, 4, math.MaxInt} {
		b := filled(t, 6, asks(0, 3)...)
		shut := filled(t, 6, asks(7, 9)...)
		shut.Shut()
		if n := b.Move(nil, most); n != 0 {
			t.Errorf("Move to nil, at most %d: %d", most, n)
		}
		if n := b.Move(shut, most); n != 0 {
			t.Errorf("Move to a shut box, at most %d: %d", most, n)
		}
		if n := b.Move(b, most); n != 0 {
			t.Errorf("Move to itself, at most %d: %d", most, n)
		}
		if b.Room() != 3 || !b.Open() {
			t.Errorf("Room %d, Open %v, behind no move", b.Room(), b.Open())
		}
		is(t, "what was not moved", b, 6, asks(0, 3)...)
		is(t, "a shut box", shut, 0, asks(7, 9)...)
	}
}

// P4.2: Shut tells whether it was open; nothing is put then, and what waits may be taken, drained and moved.
func TestShut(t *testing.T) {
	b := filled(t, 9, asks(0, 6)...)
	if !b.Open() || !b.Shut() || b.Open() {
		t.Error("an open box is not open, or does not shut")
	}
	for range 3 {
		if b.Shut() || b.Open() || b.Put(api.Ask{}) || b.Room() != 0 || b.Len() != 6 {
			t.Errorf("a shut box: Open %v, Room %d, Len %d", b.Open(), b.Room(), b.Len())
		}
	}
	if a, some := b.Take(); a != asks(0, 1)[0] || !some {
		t.Errorf("Take of a shut box: %v %v", a, some)
	}
	if l := b.Drain(2); !slices.Equal(l, asks(1, 3)) {
		t.Errorf("Drain of a shut box: %v", l)
	}
	to := post.New(3)
	if n := b.Move(to, 2); n != 2 || b.Len() != 1 || b.Room() != 0 {
		t.Errorf("Move of a shut box: %d; %d are left, room for %d", n, b.Len(), b.Room())
	}
	is(t, "what came from a shut box", to, 3, asks(3, 5)...)
	is(t, "what a shut box had left", b, 0, asks(5, 6)...)
	if b.Put(api.Ask{}) || b.Open() || b.Shut() {
		t.Error("a shut box opens when it is empty")
	}
}

// P4.2: a box that is empty, or full, shuts as well.
func TestShutAtTheEdges(t *testing.T) {
	fresh, full := post.New(1), filled(t, 1, asks(0, 1)...)
	for _, b := range []*post.Box{fresh, full} {
		if !b.Shut() || b.Shut() || b.Open() || b.Room() != 0 || b.Put(api.Ask{}) {
			t.Errorf("shut: Open %v, Room %d", b.Open(), b.Room())
		}
	}
	is(t, "a fresh box, shut", fresh, 0)
	is(t, "a full box, shut", full, 0, asks(0, 1)...)
}

// P4.1 and P4.2: each row of 4 calls at two boxes with little room, that are moved into each other.
func TestAllShortRows(t *testing.T) {
	const calls, long = 8, 4
	rows := 1
	for range long {
		rows *= calls * 2
	}
	for row := range rows {
		two := [2]pair{newPair(1), newPair(2)}
		left := row
		for i := range long {
			who := left % 2
			two[who].step(t, left/2%calls, i, two[1-who])
			left /= calls * 2
		}
	}
}

// P4.1 and P4.2: drawn calls, held against the models at every one.
func TestDrawnCalls(t *testing.T) {
	draw := drawer()
	for range 300 {
		l := []pair{newPair(1 + draw(3)), newPair(1 + draw(20)), newPair(1 + draw(1000)), newPair(1000)}
		for range 400 {
			call := draw(8)
			if call == 6 && draw(40) > 0 { // else all were shut soon
				call = draw(3)
			}
			l[draw(4)].step(t, call, draw(30)-3, l[draw(4)])
		}
		for i, p := range l {
			room := p.m.size
			if p.m.shut {
				room = 0
			}
			is(t, told("box ", i, ", at the end"), p.b, room, p.m.l...)
		}
	}
}

// R3: what Drain tells is the caller's, and the box's row stays what it is.
func TestDrainedAreTheCallers(t *testing.T) {
	b := filled(t, 9, asks(0, 6)...)
	first := b.Drain(3)
	first = append(first, api.Ask{Task: 99})
	second := b.Drain(2)
	for i := range second {
		second[i].Task = -7
	}
	for _, a := range asks(10, 14) {
		b.Put(a)
	}
	if !slices.Equal(first, append(asks(0, 3), api.Ask{Task: 99})) {
		t.Errorf("what was drained first was changed: %v", first)
	}
	is(t, "behind what the caller changed", b, 9, append(asks(5, 6), asks(10, 14)...)...)
}

// R3: two boxes have nothing in common.
func TestBoxesAreApart(t *testing.T) {
	a, b := post.New(3), post.New(3)
	a.Put(api.Ask{Task: 1})
	empty(t, "another box", b)
	b.Shut()
	if !a.Open() || !a.Put(api.Ask{Task: 2}) || a.Room() != 1 {
		t.Error("a box was shut with another one")
	}
	is(t, "the first box", a, 3, api.Ask{Task: 1}, api.Ask{Task: 2})
}

// together runs all of them at once, and fails if they don't end.
func together(t *testing.T, all ...func()) {
	t.Helper()
	var start, joined sync.WaitGroup
	start.Add(1)
	for _, one := range all {
		joined.Go(func() {
			start.Wait()
			one()
		})
	}
	start.Done()
	ended := make(chan struct{})
	go func() {
		joined.Wait()
		close(ended)
	}()
	select {
	case <-ended:
	case <-time.After(time.Minute):
		t.Fatal("goroutines that use boxes wait for each other")
	}
}

// times are n of the same, each told its number.
func times(n int, one func(who int)) []func() {
	var l []func()
	for who := range n {
		l = append(l, func() { one(who) })
	}
	return l
}

// R4: of several that put at once, each one's requests wait in the order in which it put them, and all of them do.
func TestManyPut(t *testing.T) {
	for range 20 {
		b := post.New(1000)
		together(t, times(8, func(who int) {
			for i := range 125 {
				if !b.Put(api.Ask{Task: who, Demand: int64(i)}) {
					t.Errorf("%d can't put %d", who, i)
				}
			}
		})...)
		if b.Len() != 1000 || b.Room() != 0 || b.Put(api.Ask{}) {
			t.Fatalf("Len %d, Room %d", b.Len(), b.Room())
		}
		inOrder(t, b.Drain(1000), 8, 125)
	}
}

// inOrder holds that of each of so many, just so many requests are there, rising from 0 on.
func inOrder(t *testing.T, l []api.Ask, who, each int) {
	t.Helper()
	next := make([]int64, who)
	for _, a := range l {
		if a.Demand != next[a.Task] {
			t.Fatalf("of %d, %d behind %d", a.Task, a.Demand, next[a.Task]-1)
		}
		next[a.Task]++
	}
	for i, n := range next {
		if n != int64(each) {
			t.Fatalf("of %d, %d of %d are there", i, n, each)
		}
	}
}

// R4: just as many are put as there is room for, though more want to.
func TestManyPutTooMuch(t *testing.T) {
	for size := 1; size < 200; size += 7 {
		b := post.New(size)
		var put [8]int
		together(t, times(8, func(who int) {
			for i := range 50 {
				if b.Put(api.Ask{Task: who, Demand: int64(i)}) {
					put[who]++
				}
			}
		})...)
		sum := 0
		for _, n := range put {
			sum += n
		}
		if sum != size || b.Len() != size {
			t.Fatalf("room for %d: %d were put, %d wait", size, sum, b.Len())
		}
	}
}

// R4: of several that take and drain at once, each one has its requests in order, what was drained at once is one row, and none is told twice.
func TestManyTake(t *testing.T) {
	for range 20 {
		b := filled(t, 1000, asks(0, 1000)...)
		var got [8][]api.Ask
		together(t, times(8, func(who int) {
			for {
				var l []api.Ask
				if who%4 > 0 {
					l = b.Drain(1 + who*who)
				} else if a, some := b.Take(); some {
					l = []api.Ask{a}
				}
				if !slices.Equal(l, rowFrom(l)) {
					t.Errorf("what was drained at once is no row: %v", l)
				}
				if got[who] = append(got[who], l...); b.Len() == 0 {
					return
				}
			}
		})...)
		allOf(t, got[:], 1000)
	}
}

// rowFrom is a row as long as l, that starts as l does.
func rowFrom(l []api.Ask) []api.Ask {
	if len(l) == 0 {
		return nil
	}
	return asks(l[0].Task, l[0].Task+len(l))
}

// allOf holds that each of got rises, and that all together are those from 0 to n.
func allOf(t *testing.T, got [][]api.Ask, n int) {
	t.Helper()
	byTask := func(a, b api.Ask) int { return a.Task - b.Task }
	var all []api.Ask
	for who, l := range got {
		if !slices.IsSortedFunc(l, byTask) {
			t.Fatalf("%d has %v", who, l)
		}
		all = append(all, l...)
	}
	slices.SortFunc(all, byTask)
	if !slices.Equal(all, asks(0, n)) {
		t.Fatalf("%d were told, of %d", len(all), n)
	}
}

// R4: boxes that are moved into each other, both ways, in a ring, and from themselves, wait for nobody, and lose nothing.
func TestManyMove(t *testing.T) {
	for _, sizes := range [][]int{{1000, 1000}, {5, 1000, 1}, {3, 2, 4, 7}} {
		var boxes []*post.Box
		many := 0
		for _, size := range sizes {
			boxes = append(boxes, filled(t, size, asks(many, many+(size+1)/2)...))
			many += (size + 1) / 2
		}
		var moves []func()
		for i, from := range boxes {
			for j, to := range boxes {
				moves = append(moves, times(2, func(who int) {
					for n := range 3000 {
						if moved := from.Move(to, n%7+who); moved > n%7+who || i == j && moved > 0 {
							t.Errorf("%d were moved of at most %d", moved, n%7+who)
						}
					}
				})...)
			}
		}
		together(t, moves...)
		var all []api.Ask
		for _, b := range boxes {
			all = append(all, b.Drain(1000)...)
		}
		slices.SortFunc(all, func(a, b api.Ask) int { return a.Task - b.Task })
		allOf(t, [][]api.Ask{all}, many)
	}
}

// R4: what is moved at once comes as one row, though others put, take and move as well; what was told to be moved is there.
func TestMovedComesAsARow(t *testing.T) {
	for range 50 {
		from, to := filled(t, 1000, asks(0, 1000)...), post.New(1000)
		var rows [4][]api.Ask
		var moved [4]int
		movers := times(4, func(who int) {
			for own := post.New(9); from.Len() > 0; {
				n := from.Move(own, 9)
				l := own.Drain(10)
				if len(l) != n || !slices.Equal(l, rowFrom(l)) {
					t.Errorf("%d were moved: %v", n, l)
				}
				rows[who] = append(rows[who], l...)
				moved[who] += from.Move(to, 5)
			}
		})
		together(t, movers...)
		l := to.Drain(1000)
		if sum := moved[0] + moved[1] + moved[2] + moved[3]; sum != len(l) {
			t.Fatalf("%d were moved, %d are there", sum, len(l))
		}
		allOf(t, append(rows[:], l), 1000)
	}
}

// R4: who moves into a box, and who puts into it, share its room; nothing that was taken finds none.
func TestMoveAndPutShareRoom(t *testing.T) {
	for range 200 {
		to := post.New(20)
		var from [4]*post.Box
		var came [8]int
		for i := range from {
			from[i] = filled(t, 30, asks(i*30, i*30+30)...)
		}
		together(t, times(8, func(who int) {
			for range 30 {
				if who < 4 {
					came[who] += from[who].Move(to, 3)
				} else if to.Put(api.Ask{Task: -who}) {
					came[who]++
				}
			}
		})...)
		sum := 0
		for i, n := range came {
			sum += n
			if i < 4 && from[i].Len() != 30-n {
				t.Fatalf("%d were moved of 30, %d are left", n, from[i].Len())
			}
		}
		if sum != 20 || to.Len() != 20 {
			t.Fatalf("%d came, %d wait, want 20", sum, to.Len())
		}
	}
}

// R4 and P4.2: when Shut has answered, nothing comes any more, neither put nor moved; just one Shut finds the box open.
func TestNothingComesBehindShut(t *testing.T) {
	for round := range 300 {
		from, to := filled(t, 1000, asks(0, 1000)...), post.New(1000)
		var came [4]int
		var found [2]bool
		var waiting [2]int
		work := times(4, func(who int) {
			for i := range 200 {
				if who < 2 {
					came[who] += from.Move(to, 2)
				} else if to.Put(api.Ask{Task: -i}) {
					came[who]++
				}
			}
		})
		together(t, append(work, times(2, func(who int) {
			for to.Len() < round {
				if !to.Open() {
					break
				}
			}
			found[who] = to.Shut()
			waiting[who] = to.Len()
		})...)...)
		sum := came[0] + came[1] + came[2] + came[3]
		if found[0] == found[1] || waiting[0] != sum || waiting[1] != sum || to.Len() != sum || from.Len() != 1000-came[0]-came[1] {
			t.Fatalf("Shut: %v; %v waited then, %d now, %d came", found, waiting, to.Len(), sum)
		}
	}
}

// R4: what is moved at once leaves one box, and comes to the other one, at once: nobody sees half of it in either.
func TestMovedIsSeenWhole(t *testing.T) {
	here, there := filled(t, 1000, asks(0, 1000)...), post.New(1000)
	watch := func(b *post.Box, what string, seen func() int) func() {
		return func() {
			for b.Open() {
				for range 1000 { // else it would look only when Open had been let through
					if n := seen(); n%1000 != 0 {
						t.Errorf("%s of 1000: %d", what, n)
						return
					}
				}
			}
		}
	}
	together(t, func() {
		for range 1000 {
			if here.Move(there, 1000) != 1000 || there.Move(here, 1000) != 1000 {
				t.Error("not all were moved")
			}
		}
		here.Shut()
		there.Shut()
	}, watch(here, "Len", here.Len), watch(there, "Len", there.Len), watch(here, "Room", here.Room), watch(there, "Room", there.Room))
}

// R4: no more is drained at once than a box has room for, though others put all the while.
func TestDrainedIsNoMoreThanFits(t *testing.T) {
	b := filled(t, 1000, asks(0, 1000)...)
	together(t, times(4, func(who int) {
		if who > 0 {
			for b.Open() {
				b.Put(api.Ask{})
			}
			return
		}
		for range 300 {
			if n := len(b.Drain(math.MaxInt)); n > 1000 {
				t.Errorf("%d were drained, of a box with room for 1000", n)
			}
		}
		b.Shut()
	})...)
}
