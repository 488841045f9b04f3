package parse_test

import (
	"fmt"
	"math"
	"math/big"
	"reflect"
	"regexp"
	"slices"
	"strings"
	"testing"

	"ostinato/api"
	"ostinato/lex"
	"ostinato/parse"
	"ostinato/tasks"
)

// full is a right task's words, with both lists.
const full = "task 3 c=6 d=8 t=10 p=5 chunks=2,3,1 use=0,3,3"

// plain is the task that full says.
func plain() api.Task {
	return api.Task{ID: 3, C: 6, D: 8, T: 10, Prio: 5, Chunks: []int64{2, 3, 1}, Use: []int{0, 3, 3}}
}

// with is a plain task that was changed.
func with(change func(t *api.Task)) api.Task {
	t := plain()
	change(&t)
	return t
}

// small is a task that is right for any sets, of that ID and Prio.
func small(id, prio int) api.Task {
	return api.Task{ID: id, C: 1, D: 1, T: 1, Prio: prio}
}

// many are so many tasks that are right together, as far as their number goes.
func many(n int) []api.Task {
	var l []api.Task
	for i := range n {
		l = append(l, small(i+1, n-i))
	}
	return l
}

// system is a cache of 4 sets and a reload of 2, with those tasks.
func system(l ...api.Task) api.System {
	return api.System{Sets: 4, Reload: 2, Tasks: l}
}

// told writes down what was told; lists without elements are all the same.
func told(what any) string {
	return fmt.Sprintf("%+v", what)
}

// is holds what was told against what ought to be.
func is(t *testing.T, what string, got, want any) {
	t.Helper()
	if g, w := told(got), told(want); g != w {
		t.Errorf("%.300q: %.300s, want %.300s", what, g, w)
	}
}

// read is what is told of a text or a row: a system or a task, a place, an error's number.
type read struct {
	what any
	at   int
	e    int
}

// parsed is what Parse tells.
func parsed(s string) read {
	x, at, e := parse.Parse(s)
	return read{x, at, int(e)}
}

// parsedLine is what ParseLine tells.
func parsedLine(w []api.Word) read {
	x, at, e := parse.ParseLine(w)
	return read{x, at, int(e)}
}

// noSystem is what is told of a text that is wrong there.
func noSystem(at int, e api.Errno) read {
	return read{api.System{}, at, int(e)}
}

// noTask is what is told of a row that is wrong there.
func noTask(at int) read {
	return read{api.Task{}, at, int(api.ErrForm)}
}

// drawer tells numbers below n, the same ones at every start.
func drawer() func(n int) int {
	x := uint64(88172645463325252)
	return func(n int) int {
		x ^= x << 13
		x ^= x >> 7
		x ^= x << 17
		return int(x>>1) % n
	}
}

// row is the words of s, which has no line end, found by a way of its own.
func row(s string) []api.Word {
	var l []api.Word
	for _, at := range regexp.MustCompile(`[^ \t]+`).FindAllStringIndex(s, -1) {
		l = append(l, api.Word{At: at[0], Line: 1, Text: s[at[0]:at[1]]})
	}
	return l
}

// step is what stands at a place of a row: a text ahead, a number or some behind it; perhaps.
type step struct {
	ahead      string
	none, some bool
	most       int64
	maybe      bool
	lay        func(l []int64)
}

var digits = regexp.MustCompile(`^(0|[1-9][0-9]*)$`)

// values are the numbers that a word says by that step, and whether it says any.
func (s step) values(word string) ([]int64, bool) {
	value, ok := strings.CutPrefix(word, s.ahead)
	if !ok || s.none {
		return nil, ok && value == ""
	}
	all := []string{value}
	if s.some {
		all = strings.Split(value, ",")
	}
	var l []int64
	for _, one := range all {
		if !digits.MatchString(one) {
			return nil, false
		}
		n, _ := new(big.Int).SetString(one, 10)
		if n.Cmp(big.NewInt(s.most)) > 0 {
			return nil, false
		}
		l = append(l, n.Int64())
	}
	return l, true
}

// ints are numbers of a list as those of the other kind.
func ints(l []int64) []int {
	var all []int
	for _, n := range l {
		all = append(all, int(n))
	}
	return all
}

// taskSteps are the chapter's steps of a task's words.
func taskSteps(t *api.Task) []step {
	return []step{
		{ahead: "task", none: true},
		{most: 99, lay: func(l []int64) { t.ID = int(l[0]) }},
		{ahead: "c=", most: 1073741824, lay: func(l []int64) { t.C = l[0] }},
		{ahead: "d=", most: 1073741824, lay: func(l []int64) { t.D = l[0] }},
		{ahead: "t=", most: 1073741824, lay: func(l []int64) { t.T = l[0] }},
		{ahead: "p=", most: 99, lay: func(l []int64) { t.Prio = int(l[0]) }},
		{ahead: "chunks=", some: true, most: 1073741824, maybe: true, lay: func(l []int64) { t.Chunks = l }},
		{ahead: "use=", some: true, most: 255, maybe: true, lay: func(l []int64) { t.Use = ints(l) }},
	}
}

// cacheSteps are the chapter's steps of a cache's words.
func cacheSteps(s *api.System) []step {
	return []step{
		{ahead: "cache", none: true},
		{most: 256, lay: func(l []int64) { s.Sets = int(l[0]) }},
		{most: 1000, lay: func(l []int64) { s.Reload = l[0] }},
	}
}

// walk goes through the steps, and tells the place, and whether all of the row was taken.
func walk(w []api.Word, steps []step) (int, bool) {
	end := 0
	if len(w) > 0 {
		last := w[len(w)-1]
		end = last.At + len(last.Text)
	}
	i := 0
	for _, s := range steps {
		if i == len(w) {
			if s.maybe {
				continue
			}
			return end, false
		}
		l, ok := s.values(w[i].Text)
		if !ok {
			if s.maybe {
				continue
			}
			return w[i].At, false
		}
		if s.lay != nil {
			s.lay(l)
		}
		i++
	}
	if i < len(w) {
		return w[i].At, false
	}
	return end, true
}

// wantLine is what ParseLine ought to tell.
func wantLine(w []api.Word) read {
	var t api.Task
	at, ok := walk(w, taskSteps(&t))
	if !ok {
		return noTask(at)
	}
	return read{t, at, 0}
}

// want is what Parse ought to tell.
func want(s string) read {
	var x api.System
	from, first := 0, true
	for line := range strings.SplitSeq(s, "\n") {
		begin := from
		from += len(line) + 1
		line, _, _ = strings.Cut(line, "#")
		w := row(line)
		if len(w) == 0 {
			continue
		}
		for i := range w {
			w[i].At += begin
		}
		if first {
			first = false
			if at, ok := walk(w, cacheSteps(&x)); !ok {
				return noSystem(at, api.ErrForm)
			}
			continue
		}
		var t api.Task
		if at, ok := walk(w, taskSteps(&t)); !ok {
			return noSystem(at, api.ErrForm)
		}
		x.Tasks = append(x.Tasks, t)
		if e := tasks.Check(x); e != api.OK {
			return noSystem(w[0].At, e)
		}
	}
	switch {
	case first:
		return noSystem(len(s), api.ErrForm)
	case len(x.Tasks) == 0:
		return noSystem(len(s), api.ErrArg)
	}
	return read{x, len(s), 0}
}

// The chapter's example.
func TestExample(t *testing.T) {
	s := "cache 4 1\ntask 1 c=2 d=5 t=5"
	is(t, s, parsed(s), noSystem(len(s), api.ErrForm))
}

// P7.1: rows that say a task, with its lists and without.
func TestParseLine(t *testing.T) {
	for s, one := range map[string]api.Task{
		full:                              plain(),
		"task 3 c=6 d=8 t=10 p=5":         {ID: 3, C: 6, D: 8, T: 10, Prio: 5},
		"task 3 c=6 d=8 t=10 p=5 use=0":   {ID: 3, C: 6, D: 8, T: 10, Prio: 5, Use: []int{0}},
		"task 0 c=0 d=0 t=0 p=0 chunks=0": {Chunks: []int64{0}},
		"task 99 c=1073741824 d=1073741824 t=1073741824 p=99 chunks=1073741824,0,1 use=255,0,255": {
			ID: 99, C: 1 << 30, D: 1 << 30, T: 1 << 30, Prio: 99, Chunks: []int64{1 << 30, 0, 1}, Use: []int{255, 0, 255}},
		"  task\t7   c=9 d=2 t=1 p=8\tchunks=5 ": {ID: 7, C: 9, D: 2, T: 1, Prio: 8, Chunks: []int64{5}},
	} {
		end := len(strings.TrimRight(s, " \t"))
		is(t, s, parsedLine(row(s)), read{one, end, 0})
		is(t, s, parsedLine(lex.Words(s)), read{one, end, 0})
	}
}

// P7.1: of no words the place is 0.
func TestParseLineNothing(t *testing.T) {
	is(t, "nil", parsedLine(nil), noTask(0))
	is(t, "no words", parsedLine([]api.Word{}), noTask(0))
}

// P7.1: places are those of the words that are handed in, wherever these stand, and on which line.
func TestParseLinePlaces(t *testing.T) {
	w := row(full)
	for i := range w {
		w[i].At, w[i].Line = 1000-7*i, 50-i
	}
	last := w[len(w)-1]
	is(t, "a right row", parsedLine(w), read{plain(), last.At + len(last.Text), 0})
	for i := range w {
		is(t, fmt.Sprint("without words from ", i), parsedLine(w[:i]), wantLine(w[:i]))
		bad := slices.Clone(w)
		bad[i].Text = "x"
		is(t, fmt.Sprint("wrong at ", i), parsedLine(bad), noTask(bad[i].At))
		bad[i].At = -3
		is(t, fmt.Sprint("wrong below 0, at ", i), parsedLine(bad), noTask(-3))
	}
	for _, at := range []int{math.MinInt, -1, 0, math.MaxInt} {
		parsedLine([]api.Word{{At: at, Text: "task"}})
		is(t, "a place of any size", parsedLine([]api.Word{{At: at, Text: "tusk"}}), noTask(at))
	}
}

// P7.1: a word that is missing: where the row ends, but for the lists, which may be.
func TestParseLineMissing(t *testing.T) {
	w := row(full)
	for i := 1; i < 6; i++ {
		end := w[i-1].At + len(w[i-1].Text)
		is(t, fmt.Sprint("words up to ", i), parsedLine(w[:i]), noTask(end))
		is(t, fmt.Sprint("no word ", i), parsedLine(slices.Delete(slices.Clone(w), i, i+1)), noTask(w[i+1].At))
	}
	is(t, "no task", parsedLine(w[1:]), noTask(w[1].At))
	for i := 6; i <= 8; i++ {
		_, at, e := parse.ParseLine(w[:i])
		is(t, fmt.Sprint("words up to ", i), []int{at, int(e)}, []int{w[i-1].At + len(w[i-1].Text), 0})
	}
}

// P7.1: a word that does not say what must stand there: where it begins, whatever follows.
func TestParseLineWrong(t *testing.T) {
	bad := map[int][]string{
		0: {"", "Task", "TASK", "tas", "task=", "tasks", "=task", "task ", "taſk", "cache", "3"},
		1: {"", "+3", "-3", "03", "00", "100", "3.", "x", "3x", "id=3", "0x3", "3,4", "99999999999999999999", "18446744073709551619", "٣", "=3"},
		6: {"", "chunks", "chunks=", "chunk=2", "Chunks=2", "chunks=2,", "chunks=,2", "chunks=2,,3", "chunks=2;3", "chunks==2", "chunks=02", "chunks=-1", "chunks=1073741825", "chunks=2,1073741825", "chunks=x", "chunks =2", "=2", "2,3", "xchunks=2"},
		7: {"", "use", "use=", "uses=2", "Use=2", "use=2,", "use=,2", "use=0,,3", "use=256", "use=3,256", "use=0,-1", "use=00", "use=x", "use==0", "=0", "0,3", "chunks=1", "chunks=6", "xuse=1"},
	}
	for i, name := range map[int]string{2: "c", 3: "d", 4: "t", 5: "p"} {
		for _, v := range []string{"", "-1", "+1", "01", "1,2", "1,", "=1", "1=", "x", "1x", "1073741825", "9223372036854775808", "18446744073709551617"} {
			bad[i] = append(bad[i], name+"="+v)
		}
		bad[i] = append(bad[i], "", name, name+"6", "6", "=6", strings.ToUpper(name)+"=6", name+name+"=6", "x=6", name+":6", " "+name+"=6")
	}
	bad[2] = append(bad[2], "d=6")
	bad[3] = append(bad[3], "c=6")
	bad[5] = append(bad[5], "p=100", "prio=5", "chunks=2,3,1")
	for i, l := range bad {
		for _, word := range l {
			w := row(full)
			w[i].Text = word
			is(t, fmt.Sprint("at ", i, " ", word), parsedLine(w), noTask(w[i].At))
			is(t, fmt.Sprint("at ", i, " at the end ", word), parsedLine(w[:i+1]), noTask(w[i].At))
		}
	}
}

// P7.1: what stands behind all words is wrong, and so are lists in the other order, or twice.
func TestParseLineMore(t *testing.T) {
	for _, s := range []string{
		full + " |x", full + " |use=0,3,3", full + " |chunks=6", full + " |task", full + " |task 3", full + " |,",
		"task 3 c=6 d=8 t=10 p=5 |x", "task 3 c=6 d=8 t=10 p=5 |p=5", "task 3 c=6 d=8 t=10 p=5 |5",
		"task 3 c=6 d=8 t=10 p=5 use=0 |chunks=6", "task 3 c=6 d=8 t=10 p=5 use=0 |use=0",
		"task 3 c=6 d=8 t=10 p=5 chunks=6 |chunks=6", "task 3 c=6 d=8 t=10 p=5 chunks=6 |chunks=6 use=0",
		"task 3 c=6 d=8 t=10 p=5 |chunks=x use=0", "task 3 c=6 d=8 t=10 p=5 chunks=6 |use=x y",
		"task 3 c=6 d=8 |p=5 t=10", "task 3 |d=8 c=6 t=10 p=5", "task |c=6 3 d=8 t=10 p=5", "|3 task c=6 d=8 t=10 p=5",
		"task 3 c=6 d=8 t=10 |chunks=6 p=5", "|", "task task",
	} {
		at := strings.Index(s, "|")
		if at < 0 {
			at = strings.LastIndex(s, " ") + 1
		}
		is(t, s, parsedLine(row(strings.Replace(s, "|", "", 1))), noTask(at))
	}
}

// P7.1: numbers on both sides of each edge.
func TestParseLineEdges(t *testing.T) {
	for i, most := range map[int]int64{1: 99, 2: 1 << 30, 3: 1 << 30, 4: 1 << 30, 5: 99, 6: 1 << 30, 7: 255} {
		for _, n := range []int64{0, 1, 9, 10, 98, 99, 100, 254, 255, 256, 257, 1<<30 - 1, 1 << 30, 1<<30 + 1, 1 << 32, 1<<32 + 1, math.MaxInt64} {
			w := row("task 1 c=1 d=1 t=1 p=1 chunks=1 use=1")
			name, _, ok := strings.Cut(w[i].Text, "=")
			if w[i].Text = fmt.Sprint(n); ok {
				w[i].Text = fmt.Sprint(name, "=", n)
			}
			_, at, e := parse.ParseLine(w)
			place, errno := w[7].At+len(w[7].Text), api.OK
			if n > most {
				place, errno = w[i].At, api.ErrForm
			}
			is(t, fmt.Sprint(i, " ", n), []any{at, e}, []any{place, errno})
			is(t, fmt.Sprint(i, " ", n), parsedLine(w), wantLine(w))
		}
	}
}

// P7.1: all short rows of some words, and rows that begin well and go on with all of some words.
func TestParseLineAll(t *testing.T) {
	pieces := []string{"task", "1", "c=1", "d=1", "t=1", "p=1", "chunks=1", "use=1", "c=", "100"}
	starts := []string{"", "task", "task 1", "task 1 c=1 d=1", "task 1 c=1 d=1 t=1", "task 1 c=1 d=1 t=1 p=1"}
	for _, start := range starts {
		rows := []string{start}
		for range 3 {
			for _, s := range rows {
				is(t, s, parsedLine(row(s)), wantLine(row(s)))
			}
			var longer []string
			for _, s := range rows {
				for _, p := range pieces {
					longer = append(longer, s+" "+p)
				}
			}
			rows = longer
		}
	}
}

// P7.1: drawn rows, that were right ahead of some changes.
func TestParseLineDrawn(t *testing.T) {
	next := drawer()
	right := 0
	for range 40000 {
		w := row(drawnLine(next))
		for range next(3) {
			w = changed(next, w)
		}
		got := parsedLine(w)
		is(t, told(w), got, wantLine(w))
		if got.e == 0 {
			right++
		}
	}
	if right < 10000 || right > 30000 {
		t.Errorf("%d rows of 40000 were right: too few on one side", right)
	}
}

// drawnLine is a task's words, right or not.
func drawnLine(next func(n int) int) string {
	number := func() int { return []int{next(5), next(200), 1 << 30}[next(3)] }
	s := fmt.Sprintf("task %d c=%d d=%d t=%d p=%d", next(100), number(), number(), number(), next(100))
	for i, name := range []string{" chunks=", " use="} {
		for n := range next(4) {
			if s += ","; n == 0 {
				s = s[:len(s)-1] + name
			}
			s += fmt.Sprint(next([]int{2000, 256}[i]))
		}
	}
	return s
}

// changed is a row with one word less, twice, elsewhere, or with other bytes.
func changed(next func(n int) int, w []api.Word) []api.Word {
	w = slices.Clone(w)
	if len(w) == 0 {
		return w
	}
	i, j := next(len(w)), next(len(w))
	switch text := w[i].Text; next(5) {
	case 0:
		return slices.Delete(w, i, i+1)
	case 1:
		return slices.Insert(w, i, w[j])
	case 2:
		w[i], w[j] = w[j], w[i]
	case 3:
		at := next(len(text) + 1)
		w[i].Text = text[:at] + string("0123456789=,acdetx+-"[next(20)]) + text[at:]
	case 4:
		if len(text) > 0 {
			at := next(len(text))
			w[i].Text = text[:at] + text[at+1:]
		}
	}
	return w
}

// P7.1: the words of a right task, and nothing of one that is wrong.
func TestLine(t *testing.T) {
	is(t, "both lists", parse.Line(plain()), full)
	is(t, "no lists", parse.Line(with(func(t *api.Task) { t.Chunks, t.Use = nil, nil })), "task 3 c=6 d=8 t=10 p=5")
	is(t, "empty lists", parse.Line(with(func(t *api.Task) { t.Chunks, t.Use = []int64{}, []int{} })), "task 3 c=6 d=8 t=10 p=5")
	is(t, "chunks", parse.Line(with(func(t *api.Task) { t.Use = nil })), "task 3 c=6 d=8 t=10 p=5 chunks=2,3,1")
	is(t, "one chunk", parse.Line(with(func(t *api.Task) { t.Chunks, t.Use = []int64{6}, nil })), "task 3 c=6 d=8 t=10 p=5 chunks=6")
	is(t, "used sets", parse.Line(with(func(t *api.Task) { t.Chunks = nil })), "task 3 c=6 d=8 t=10 p=5 use=0,3,3")
	is(t, "set 255", parse.Line(with(func(t *api.Task) { t.Use = []int{255} })), "task 3 c=6 d=8 t=10 p=5 chunks=2,3,1 use=255")
	is(t, "the greatest", parse.Line(api.Task{ID: 99, C: 1 << 30, D: 1 << 30, T: 1 << 30, Prio: 99}), "task 99 c=1073741824 d=1073741824 t=1073741824 p=99")
	is(t, "the least", parse.Line(small(1, 1)), "task 1 c=1 d=1 t=1 p=1")
	for what, change := range map[string]func(t *api.Task){
		"ID 0":          func(t *api.Task) { t.ID = 0 },
		"ID 100":        func(t *api.Task) { t.ID = 100 },
		"ID below 0":    func(t *api.Task) { t.ID = math.MinInt },
		"Prio 0":        func(t *api.Task) { t.Prio = 0 },
		"Prio 100":      func(t *api.Task) { t.Prio = 100 },
		"C 0":           func(t *api.Task) { t.C, t.Chunks = 0, nil },
		"C above D":     func(t *api.Task) { t.D = 5 },
		"D above T":     func(t *api.Task) { t.T = 7 },
		"T above MaxT":  func(t *api.Task) { t.T = 1<<30 + 1 },
		"chunks' sum":   func(t *api.Task) { t.Chunks = []int64{2, 3} },
		"a chunk of 0":  func(t *api.Task) { t.Chunks = []int64{2, 0, 4} },
		"a chunk of -1": func(t *api.Task) { t.Chunks = []int64{7, -1} },
		"65 chunks":     func(t *api.Task) { t.C, t.D, t.T, t.Chunks = 65, 65, 65, slices.Repeat([]int64{1}, 65) },
		"set 256":       func(t *api.Task) { t.Use = []int{256} },
		"set -1":        func(t *api.Task) { t.Use = []int{-1} },
		"65 used sets":  func(t *api.Task) { t.Use = make([]int, 65) },
		"nothing":       func(t *api.Task) { *t = api.Task{} },
	} {
		is(t, what, parse.Line(with(change)), "")
	}
}

// P7.1: lists as long as they may be.
func TestLineLists(t *testing.T) {
	one := api.Task{ID: 1, C: 64, D: 64, T: 64, Prio: 1, Chunks: slices.Repeat([]int64{1}, 64), Use: make([]int, 64)}
	s := "task 1 c=64 d=64 t=64 p=1 chunks=1" + strings.Repeat(",1", 63) + " use=0" + strings.Repeat(",0", 63)
	is(t, "64 of both", parse.Line(one), s)
	is(t, s, parsedLine(row(s)), read{one, len(s), 0})
}

// P7.2: texts that say a system.
func TestParse(t *testing.T) {
	two := small(7, 1)
	for s, x := range map[string]api.System{
		"cache 4 2\n" + full: system(plain()),
		"cache 4 2\n" + full + "\ntask 7 c=1 d=1 t=1 p=1\n":             system(plain(), two),
		"\n \t\n# a remark\n cache\t4   2 # and one\n\n\n" + full + "#": system(plain()),
		"cache 0 0\ntask 1 c=1 d=1 t=1 p=1":                             {Tasks: []api.Task{small(1, 1)}},
		"cache 256 1000\ntask 99 c=1 d=1 t=1 p=99 use=255": {Sets: 256, Reload: 1000, Tasks: []api.Task{
			{ID: 99, C: 1, D: 1, T: 1, Prio: 99, Use: []int{255}}}},
		"#\ncache 4 2#task 1\n#task 2\n" + full + "# chunks=9\n#": system(plain()),
	} {
		is(t, s, parsed(s), read{x, len(s), 0})
	}
}

// P7.2: texts that have no words, or no task.
func TestParseNothing(t *testing.T) {
	for _, s := range []string{"", "\n", " ", "\t\n \n", "# nothing", "\n# cache 4 2\n #task", "\n\n\n"} {
		is(t, s, parsed(s), noSystem(len(s), api.ErrForm))
	}
	for _, s := range []string{"cache 4 2", "cache 4 2\n", "cache 0 0 # none\n\n  ", "\ncache 256 1000\n# " + full} {
		is(t, s, parsed(s), noSystem(len(s), api.ErrArg))
	}
}

// P7.2: first lines that are wrong, at the place that the bar shows.
func TestParseCache(t *testing.T) {
	for _, s := range []string{
		"cache|", "cache|\n", "cache|  \n4 2\n", "cache 4|", "cache 4|\n" + full, "cache 4| # 2\n" + full, "\n cache 4|\n2",
		"cache 4 2 |9", "cache 4 2 |2 2\n" + full, "cache 4 2 |task", "cache 4 2 |" + full, "cache 4 2 |cache 4 2",
		"cache |257 2\n" + full, "cache 4 |1001\n" + full, "cache |257 1001", "cache |-1 2", "cache 4 |-1", "cache |04 2", "cache 4 |02",
		"cache |x 2", "cache 4 |x", "cache |4,2", "cache |4, 2", "cache |sets=4 reload=2", "cache |18446744073709551620 2",
		"|Cache 4 2\n" + full, "|caches 4 2", "|cach 4 2", "|cache=4 2", "|x", "|4 2", "|" + full, "\n\n\t|" + full + "\ncache 4 2", "|task", "|cache\r\n4 2", "cache 4 |2\r\n" + full,
		"|\x00", "|\xff", "|\u00a0cache 4 2", "|\ufeffcache 4 2\n" + full, "cache|#4 2\n",
	} {
		at := strings.Index(s, "|")
		s = s[:at] + s[at+1:]
		is(t, s, parsed(s), noSystem(at, api.ErrForm))
		is(t, s, want(s), noSystem(at, api.ErrForm))
	}
}

// P7.2: tasks' lines whose words are wrong, at the place that the bar shows.
func TestParseWords(t *testing.T) {
	one := "task 1 c=1 d=1 t=1 p=1\n"
	for _, s := range []string{
		"cache 4 2\n|cache 4 2\n" + full, "cache 4 2\n" + full + "\n|cache 4 2\n", "cache 4 2\n|x", "cache 4 2\n\n  |x\n" + full,
		"cache 4 2\ntask 3 c=6 d=8 t=10| # p=5\n", "cache 4 2\ntask 3 c=6 d=8 t=10|\np=5\n", "cache 4 2\ntask|\n" + full, "cache 4 2\n task|",
		"cache 4 2\ntask 3 c=6 d=8 t=10 p=5 use=0,3,3 |chunks=2,3,1", "cache 4 2\n" + full + " |x", "cache 4 2\n" + one + full + " |x\n",
		"cache 4 2\n" + one + "task 2 c=1 d=1 t=1 |p=2,", "cache 4 2\n" + one + "task |100 c=1 d=1 t=1 p=2", "cache 4 2\ntask 1 c=1 d=1 t=1 |p=100",
		"cache 4 2\ntask 1 c=1 d=1 t=1 p=1 |use=256", "cache 4 2\ntask 1 |c=1073741825 d=1 t=1 p=1",
		"cache 4 2\n" + one + "task 1 |x\n" + full, "cache 4 2\ntask 0 c=0 |x\n", "cache 4 2\ntask 1 c=1 d=1 t=1 |p=1\r\n",
	} {
		at := strings.Index(s, "|")
		s = s[:at] + s[at+1:]
		is(t, s, parsed(s), noSystem(at, api.ErrForm))
		is(t, s, want(s), noSystem(at, api.ErrForm))
	}
}

// P7.2: what Check tells of the system so far, at the first word of the line behind which it tells it.
func TestParseCheck(t *testing.T) {
	one := "task 4 c=1 d=1 t=1 p=4\n"
	for s, e := range map[string]api.Errno{
		"|task 0 c=1 d=1 t=1 p=1":                               api.ErrArg,
		"|task 1 c=1 d=1 t=1 p=0":                               api.ErrArg,
		"|task 0 c=0 d=1 t=1 p=1 chunks=0 use=9":                api.ErrArg,
		"|task 1 c=0 d=1 t=1 p=1 chunks=0 use=9":                api.ErrForm,
		"  |task 1 c=2 d=1 t=1 p=1":                             api.ErrForm,
		"\t|task 1 c=1 d=2 t=1 p=1":                             api.ErrForm,
		"|task 1 c=2 d=2 t=2 p=1 chunks=1 use=9":                api.ErrState,
		"|task 1 c=2 d=2 t=2 p=1 chunks=2,0":                    api.ErrState,
		"|task 1 c=2 d=2 t=2 p=1 use=3,4":                       api.ErrNone,
		"|task 1 c=65 d=65 t=65 p=1 use=0" + times(",0", 64):    api.ErrNone,
		"|task 1 c=65 d=65 t=65 p=1 chunks=1" + times(",1", 64): api.ErrState,
		one + "|" + one:                                         api.ErrForm,
		one + "|task 3 c=1 d=1 t=1 p=4":                         api.ErrForm,
		one + "|task 5 c=1 d=1 t=1 p=4":                         api.ErrThere,
		one + "\n\n # x\n  |task 5 c=1 d=1 t=1 p=4 # x":         api.ErrThere,
		one + "|task 3 c=1 d=1 t=1 p=1 use=4":                   api.ErrNone,
		one + "|task 5 c=1 d=1 t=1 p=4\ntask 6 x":               api.ErrThere,
		one + "|task 5 c=1 d=1 t=1 p=4\ntask 6 c=0 d=1":         api.ErrThere,
		one + "|task 0 c=1 d=1 t=1 p=5\ntask 9 c=0 d=1":         api.ErrArg,
		one + "|task 5 c=1 d=1 t=1 p=0\n" + one + one + "x":     api.ErrArg,
	} {
		s = "cache 4 2\n" + s
		at := strings.Index(s, "|")
		s = s[:at] + s[at+1:]
		is(t, s, parsed(s), noSystem(at, e))
		is(t, s, want(s), noSystem(at, e))
	}
}

// times is s so many times.
func times(s string, n int) string {
	return strings.Repeat(s, n)
}

// P7.2: used sets are held against the cache that the first line says.
func TestParseSets(t *testing.T) {
	for sets := range 6 {
		for use := range 6 {
			s := fmt.Sprintf("cache %d 0\ntask 1 c=1 d=1 t=1 p=1 use=%d", sets, use)
			x := api.System{Sets: sets, Tasks: []api.Task{{ID: 1, C: 1, D: 1, T: 1, Prio: 1, Use: []int{use}}}}
			if use < sets {
				is(t, s, parsed(s), read{x, len(s), 0})
			} else {
				is(t, s, parsed(s), noSystem(10, api.ErrNone))
			}
		}
	}
}

// P7.2: 64 tasks are read, one more is too many, wherever else it is wrong, but not if its words are.
func TestParseMany(t *testing.T) {
	s := parse.Print(system(many(64)...))
	is(t, "64 tasks", parsed(s), read{system(many(64)...), len(s), 0})
	for _, more := range []string{"task 65 c=1 d=1 t=1 p=65", "task 64 c=1 d=1 t=1 p=65", "task 65 c=1 d=1 t=1 p=64", "task 0 c=0 d=1 t=1 p=64"} {
		is(t, more, parsed(s+" "+more+"\nx"), noSystem(len(s)+1, api.ErrFull))
	}
	is(t, "wrong words", parsed(s+"task 65 c=1 d=1 t=1\nx"), noSystem(len(s)+len("task 65 c=1 d=1 t=1"), api.ErrForm))
	long := s
	for i := 65; i < 100; i++ {
		long += fmt.Sprintf("task %d c=1 d=1 t=1 p=%d\n", i, i)
	}
	is(t, "99 tasks", parsed(long), noSystem(len(s), api.ErrFull))
}

// P7.2: a right system as a text, and nothing of one that is wrong.
func TestPrint(t *testing.T) {
	is(t, "one task", parse.Print(system(plain())), "cache 4 2\n"+full+"\n")
	is(t, "two", parse.Print(system(plain(), small(4, 1))), "cache 4 2\n"+full+"\ntask 4 c=1 d=1 t=1 p=1\n")
	is(t, "the least", parse.Print(api.System{Tasks: []api.Task{small(1, 1)}}), "cache 0 0\ntask 1 c=1 d=1 t=1 p=1\n")
	is(t, "the greatest", parse.Print(api.System{Sets: 256, Reload: 1000, Tasks: []api.Task{small(99, 99)}}), "cache 256 1000\ntask 99 c=1 d=1 t=1 p=99\n")
	is(t, "64", parse.Print(system(many(64)...)) != "", true)
	for what, x := range map[string]api.System{
		"nothing":           {},
		"no tasks":          system(),
		"sets below 0":      {Sets: -1, Tasks: many(1)},
		"257 sets":          {Sets: 257, Tasks: many(1)},
		"a reload below 0":  {Reload: -1, Tasks: many(1)},
		"a reload of 1001":  {Reload: 1001, Tasks: many(1)},
		"65 tasks":          system(many(65)...),
		"an ID of 0":        system(small(0, 1)),
		"the same ID":       system(small(1, 1), small(1, 2)),
		"a falling ID":      system(small(2, 1), small(1, 2)),
		"the same Prio":     system(small(1, 1), small(2, 1)),
		"a set too great":   system(with(func(t *api.Task) { t.Use = []int{4} })),
		"a wrong last task": system(small(1, 1), small(2, 2), api.Task{ID: 3}),
		"chunks":            system(with(func(t *api.Task) { t.Chunks = []int64{5} })),
	} {
		is(t, what, parse.Print(x), "")
	}
}

// drawnTask is a right task of that ID and Prio, for so many sets.
func drawnTask(next func(n int) int, id, prio, sets int) api.Task {
	t := api.Task{ID: id, Prio: prio, C: int64(1 + next([]int{3, 40, 1 << 28}[next(3)]))}
	t.D = t.C + int64(next([]int{1, 40, 1 << 28}[next(3)]))
	t.T = t.D + int64(next([]int{1, 40, 1 << 28}[next(3)]))
	if next(2) > 0 {
		left := t.C
		for n := next(5); n > 0 && left > 1; n-- {
			c := int64(1 + next(int(left-1)))
			t.Chunks = append(t.Chunks, c)
			left -= c
		}
		t.Chunks = append(t.Chunks, left)
	}
	if sets > 0 {
		for range next(6) {
			t.Use = append(t.Use, next(sets))
		}
	}
	return t
}

// drawnSystem is a right system.
func drawnSystem(next func(n int) int) api.System {
	s := api.System{Sets: next(257), Reload: int64(next(1001))}
	prio, step := next(99), []int{1, 2, 5, 98}[next(4)] // steps that meet each of 99 once
	id := 0
	for range 1 + next(8) {
		id += 1 + next(5)
		prio = (prio + step) % 99
		s.Tasks = append(s.Tasks, drawnTask(next, id, prio+1, s.Sets))
	}
	return s
}

// P7.3: what was printed is read, the same.
func TestPrintedIsRead(t *testing.T) {
	next := drawer()
	for range 5000 {
		x := drawnSystem(next)
		is(t, "a drawn system", tasks.Check(x), api.OK)
		s := parse.Print(x)
		is(t, s, parsed(s), read{x, len(s), 0})
		back, _, _ := parse.Parse(s)
		is(t, s, tasks.Same(x, back), true)
		for _, one := range x.Tasks {
			line := parse.Line(one)
			is(t, line, parsedLine(lex.Words(line)), read{one, len(line), 0})
		}
	}
}

// P7.2, P7.3: drawn texts, that were right ahead of some changes: what was read is right, and is printed and read again.
func TestParseDrawn(t *testing.T) {
	next := drawer()
	count := map[api.Errno]int{}
	for range 40000 {
		s := parse.Print(drawnSystem(next))
		for range next(4) {
			s = changedText(next, s)
		}
		got := parsed(s)
		is(t, s, got, want(s))
		count[api.Errno(got.e)]++
		x, _, e := parse.Parse(s)
		if e != api.OK {
			continue
		}
		is(t, s, tasks.Check(x), api.OK)
		back, _, e := parse.Parse(parse.Print(x))
		is(t, s, []any{tasks.Same(x, back), e}, []any{true, api.OK})
	}
	for _, e := range []api.Errno{api.OK, api.ErrArg, api.ErrForm, api.ErrNone, api.ErrState, api.ErrThere} {
		if count[e] < 20 {
			t.Errorf("only %d drawn texts tell error %d", count[e], e)
		}
	}
}

// changedText is a text with other bytes, or with a line less, twice, or elsewhere.
func changedText(next func(n int) int, s string) string {
	at, to := next(len(s)+1), next(len(s)+1)
	lines := strings.SplitAfter(s, "\n")
	i, j := next(len(lines)), next(len(lines))
	switch next(6) {
	case 0:
		return s[:at] + string(" \t\n#=,0123456789cdtpx\r"[next(22)]) + s[at:]
	case 1:
		if at < len(s) {
			return s[:at] + s[at+1:]
		}
	case 2:
		if at < len(s) {
			return s[:at] + string("0123456789"[next(10)]) + s[at+1:]
		}
	case 3:
		return strings.Join(slices.Delete(lines, i, i+1), "")
	case 4:
		return strings.Join(slices.Insert(lines, i, lines[j]), "")
	case 5:
		return s[:min(at, to)] + s[max(at, to)-(max(at, to)-min(at, to))/2:]
	}
	return s
}

// P7.2, T5: all short texts of some pieces, and any bytes, are read or refused at a place.
func TestParseAll(t *testing.T) {
	pieces := []string{"cache", " ", "4", "\n", "#", "task 1 c=1 d=1 t=1 p=1", "use=0"}
	all := []string{""}
	for range 6 {
		var longer []string
		for _, s := range all {
			is(t, s, parsed(s), want(s))
			for _, p := range pieces {
				longer = append(longer, s+p)
			}
		}
		all = longer
	}
	next := drawer()
	for range 20000 {
		b := make([]byte, next(40))
		for i := range b {
			b[i] = byte(next(256))
		}
		_, at, e := parse.Parse(string(b))
		is(t, string(b), []bool{at >= 0 && at <= len(b), e == api.ErrForm}, []bool{true, true})
		is(t, string(b), parsed("cache 4 2\n"+string(b)), want("cache 4 2\n"+string(b)))
	}
}

// R3: what is handed in stays as it is, and what is told is the caller's.
func TestMemory(t *testing.T) {
	w := row(full)
	before := slices.Clone(w)
	one, _, _ := parse.ParseLine(w)
	clear(one.Chunks)
	clear(one.Use)
	is(t, "the words", w, before)
	is(t, "read once more", parsedLine(w), read{plain(), len(full), 0})
	parsedLine(append(w[:3:3], w[4:]...))
	is(t, "the words, behind a wrong row", w, before)

	x := system(plain(), small(4, 1))
	s := parse.Print(x)
	parse.Line(x.Tasks[0])
	is(t, "the system", reflect.DeepEqual(x, system(plain(), small(4, 1))), true)
	got, _, _ := parse.Parse(s)
	clear(got.Tasks[0].Chunks)
	clear(got.Tasks[0].Use)
	clear(got.Tasks)
	is(t, s, parsed(s), read{x, len(s), 0})

	lists := "cache 4 2\ntask 1 c=2 d=2 t=2 p=1 chunks=1,1 use=1,1\ntask 2 c=2 d=2 t=2 p=2 chunks=1,1 use=1,1"
	got, _, _ = parse.Parse(lists)
	got.Tasks[0].Chunks = append(got.Tasks[0].Chunks, 9)
	got.Tasks[0].Chunks[0] = 9
	got.Tasks[0].Use = append(got.Tasks[0].Use, 9)
	got.Tasks[0].Use[0] = 9
	is(t, "the second task", got.Tasks[1], api.Task{ID: 2, C: 2, D: 2, T: 2, Prio: 2, Chunks: []int64{1, 1}, Use: []int{1, 1}})
}

// R4: the same calls have the same answers, whatever was called between them.
func TestSameAnswers(t *testing.T) {
	all := []string{"cache 4 2\n" + full, "", "cache 4 2", "cache 4 2\n" + full + " x", "cache 4 2\ntask 0 c=1 d=1 t=1 p=1"}
	var first []string
	for _, s := range all {
		first = append(first, told(parsed(s)), told(parsedLine(lex.Words(s))))
	}
	for range 3 {
		var again []string
		for _, s := range all {
			again = append(again, told(parsed(s)), told(parsedLine(lex.Words(s))))
		}
		is(t, "the same calls", again, first)
	}
}

// R5: texts, rows and lists of any length are answered.
func TestLong(t *testing.T) {
	const n = 200000
	s := times("# x\n\n", n) + "cache 4 2\n" + times(" \n", n) + full + times("\n", n)
	is(t, "a long text", parsed(s), read{system(plain()), len(s), 0})
	s = "cache 4 2\n" + times(full+"\n", n)
	is(t, "many lines", parsed(s), noSystem(10+len(full)+1, api.ErrForm))
	s = "cache 4 2 " + times("2 ", n)
	is(t, "a long row", parsed(s), noSystem(10, api.ErrForm))
	s = "cache 4 2\ntask 1 c=1 d=1 t=1 p=1 chunks=1" + times(",1", n)
	is(t, "a long list", parsed(s), noSystem(10, api.ErrState))
	one, at, e := parse.ParseLine(row(s[10:]))
	is(t, "a long list's row", []any{len(one.Chunks), at, e}, []any{n + 1, len(s) - 10, api.OK})
	s = "cache 4 2\ntask " + times("1", n)
	is(t, "a long number", parsed(s), noSystem(15, api.ErrForm))
	x := system(many(64)...)
	for range 4 {
		x.Tasks = append(x.Tasks, x.Tasks...)
	}
	is(t, "many tasks", parse.Print(x), "")
	is(t, "many chunks", parse.Line(api.Task{ID: 1, C: n, D: n, T: n, Prio: 1, Chunks: slices.Repeat([]int64{1}, n)}), "")
}
