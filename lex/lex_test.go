package lex_test

import (
	"fmt"
	"math"
	"math/big"
	"slices"
	"strings"
	"testing"

	"ostinato/api"
	"ostinato/lex"
)

const most = math.MaxInt64

// told writes down what was told, texts with all their bytes.
func told(what any) string {
	switch x := what.(type) {
	case string:
		return fmt.Sprintf("%+q", x)
	case api.Word:
		return fmt.Sprintf("%d:%d:%+q", x.Line, x.At, x.Text)
	case []api.Word:
		return toldAll(x)
	case [][]api.Word:
		return toldAll(x)
	case []any:
		return toldAll(x)
	}
	return fmt.Sprint(what)
}

// toldAll writes down each of l.
func toldAll[T any](l []T) string {
	var all []string
	for _, one := range l {
		all = append(all, told(one))
	}
	return "[" + strings.Join(all, " ") + "]"
}

// is holds what was told against what ought to be.
func is(t *testing.T, what string, got, want any) {
	t.Helper()
	if g, w := told(got), told(want); g != w {
		t.Errorf("%+q: %.500s, want %.500s", what, g, w)
	}
}

// drawer tells numbers below n, the same ones at every start.
func drawer() func(n int) int {
	x := uint64(88172645463325252)
	return func(n int) int {
		x ^= x << 13
		x ^= x >> 7
		x ^= x << 17
		return int(x>>1) % n
	}
}

// draw is a text of so many of the pieces.
func draw(next func(n int) int, n int, pieces []string) string {
	var b strings.Builder
	for range n {
		b.WriteString(pieces[next(len(pieces))])
	}
	return b.String()
}

// texts are all texts of at most n of the pieces.
func texts(n int, pieces ...string) []string {
	all := []string{""}
	for from := 0; n > 0; n-- {
		to := len(all)
		for _, s := range all[from:to] {
			for _, p := range pieces {
				all = append(all, s+p)
			}
		}
		from = to
	}
	return all
}

// marks tells of each byte of s whether it is a word's, as the chapter's words say it.
func marks(s string) []bool {
	l := make([]bool, len(s))
	for i := range len(s) {
		begin := strings.LastIndexByte(s[:i], '\n') + 1
		l[i] = strings.IndexByte(" \t\n", s[i]) < 0 && strings.IndexByte(s[begin:i+1], '#') < 0
	}
	return l
}

// plain are the words of s, told the plain way: byte by byte.
func plain(s string) []api.Word {
	var l []api.Word
	m := marks(s)
	for i := range m {
		if !m[i] || i > 0 && m[i-1] {
			continue
		}
		end := i
		for end < len(m) && m[end] {
			end++
		}
		l = append(l, api.Word{At: i, Line: strings.Count(s[:i], "\n") + 1, Text: s[i:end]})
	}
	return l
}

// rows are the words of l, a row for each line that has some.
func rows(l []api.Word) [][]api.Word {
	var all [][]api.Word
	for len(l) > 0 {
		n := slices.IndexFunc(l, func(w api.Word) bool { return w.Line != l[0].Line })
		if n < 0 {
			n = len(l)
		}
		all = append(all, l[:n])
		l = l[n:]
	}
	return all
}

// look holds all that is told of the words of s.
func look(t *testing.T, s string) {
	t.Helper()
	want := plain(s)
	if got := lex.Words(s); !slices.Equal(got, want) {
		t.Fatalf("Words %q: %s, want %s", s, told(got), told(want))
	}
	if got := lex.Lines(s); !slices.EqualFunc(got, rows(want), slices.Equal[[]api.Word]) {
		t.Fatalf("Lines %q: %s, want %s", s, told(got), told(rows(want)))
	}
}

// word is one of line 1.
func word(at int, text string) api.Word { return api.Word{At: at, Line: 1, Text: text} }

// The chapter's example.
func TestExample(t *testing.T) {
	s := "a  b#c\nd"
	a, b, d := word(0, "a"), word(3, "b"), api.Word{At: 7, Line: 2, Text: "d"}
	is(t, "Words "+s, lex.Words(s), []api.Word{a, b, d})
	is(t, "Lines "+s, lex.Lines(s), [][]api.Word{{a, b}, {d}})
}

// P6.1: texts that are told here with their words.
func TestWords(t *testing.T) {
	for _, c := range []struct {
		s    string
		want []api.Word
	}{
		{"", nil}, {" ", nil}, {"\t", nil}, {"\n", nil}, {"#", nil}, {" \t \n\t \n", nil}, {"# a", nil}, {"#a#b\n#\n ##", nil},
		{"a", []api.Word{word(0, "a")}},
		{"abc", []api.Word{word(0, "abc")}},
		{"  abc", []api.Word{word(2, "abc")}},
		{"abc\t ", []api.Word{word(0, "abc")}},
		{"a b", []api.Word{word(0, "a"), word(2, "b")}},
		{"a\tb", []api.Word{word(0, "a"), word(2, "b")}},
		{"a \t b", []api.Word{word(0, "a"), word(4, "b")}},
		{"a#b", []api.Word{word(0, "a")}},
		{"a #b", []api.Word{word(0, "a")}},
		{"a b#", []api.Word{word(0, "a"), word(2, "b")}},
		{"a#b#c d", []api.Word{word(0, "a")}},
		{"a\nb", []api.Word{word(0, "a"), {At: 2, Line: 2, Text: "b"}}},
		{"a\n", []api.Word{word(0, "a")}},
		{"\na", []api.Word{{At: 1, Line: 2, Text: "a"}}},
		{"\n\n \na\n\n", []api.Word{{At: 4, Line: 4, Text: "a"}}},
		{"#a\nb", []api.Word{{At: 3, Line: 2, Text: "b"}}},
		{"a#\n#\nb#", []api.Word{word(0, "a"), {At: 5, Line: 3, Text: "b"}}},
		{"a# b\nc d\n", []api.Word{word(0, "a"), {At: 5, Line: 2, Text: "c"}, {At: 7, Line: 2, Text: "d"}}},
		{"a\r\nb\r\n", []api.Word{word(0, "a\r"), {At: 3, Line: 2, Text: "b\r"}}},
		{"c=2,3;\"x y\"", []api.Word{word(0, "c=2,3;\"x"), word(9, "y\"")}},
		{"é ü", []api.Word{word(0, "é"), word(3, "ü")}},
		{"#é\nb", []api.Word{{At: 4, Line: 2, Text: "b"}}},
		{"#日本\n日 本", []api.Word{{At: 8, Line: 2, Text: "日"}, {At: 12, Line: 2, Text: "本"}}},
		{"\xff\xfe \x80", []api.Word{word(0, "\xff\xfe"), word(3, "\x80")}},
		{"\xe3\x81 \xe3", []api.Word{word(0, "\xe3\x81"), word(3, "\xe3")}},
		{"#\xe3\x81\n\xf0\x9f#", []api.Word{{At: 4, Line: 2, Text: "\xf0\x9f"}}},
		{"\ufffd \ufffd", []api.Word{word(0, "\ufffd"), word(4, "\ufffd")}},
		{"#\ufffd\n\ufffda", []api.Word{{At: 5, Line: 2, Text: "\ufffda"}}},
	} {
		is(t, "Words "+c.s, lex.Words(c.s), c.want)
		is(t, "Lines "+c.s, lex.Lines(c.s), rows(c.want))
	}
}

// P6.1: of all bytes, a blank and a tab part words, 0a parts lines, and # begins what is no word.
func TestEachByte(t *testing.T) {
	for b := range 256 {
		s := "a" + string([]byte{byte(b)}) + "b\nc"
		c := api.Word{At: 4, Line: 2, Text: "c"}
		want := []api.Word{word(0, s[:3]), c}
		switch b {
		case 0x20, 0x09:
			want = []api.Word{word(0, "a"), word(2, "b"), c}
		case 0x0a:
			want = []api.Word{word(0, "a"), {At: 2, Line: 2, Text: "b"}, {At: 4, Line: 3, Text: "c"}}
		case 0x23:
			want = []api.Word{word(0, "a"), c}
		}
		is(t, s, lex.Words(s), want)
		is(t, s, lex.Lines(s), rows(want))
		look(t, string([]byte{byte(b)}))
	}
}

// P6.1: runes that other programs take as blanks, or whose number ends like that of a byte that parts, are a word's.
func TestEachRune(t *testing.T) {
	for _, r := range []rune{0, 0x0b, 0x0c, 0x0d, 0x1c, 0x7f, 0x85, 0xa0, 0x109, 0x10a, 0x120, 0x123, 0x1680, 0x2000, 0x2003, 0x2009, 0x200a, 0x2020, 0x2023, 0x2028, 0x2029, 0x202f, 0x3000, 0xfeff, 0xff03, 0xfffd, 0x10020, 0x10023, 0x1000a, 0x10ffff} {
		s := "a" + string(r) + "b"
		is(t, s, lex.Words(s), []api.Word{word(0, s)})
		s = string(r) + "#" + string(r) + " " + string(r) + "\n" + string(r)
		n := len(string(r))
		is(t, s, lex.Words(s), []api.Word{word(0, string(r)), {At: 3*n + 3, Line: 2, Text: string(r)}})
	}
}

// P6.1: all short texts, and many longer ones, against the plain way.
func TestWordsPlain(t *testing.T) {
	for _, s := range texts(5, " ", "\t", "\n", "#", "a", "é", "\xe3") {
		look(t, s)
	}
	next := drawer()
	pieces := []string{" ", " ", "\t", "\n", "\n", "#", "a", "bc", "=", ",", "0", "17", "\r", "\x00", "é", "\u2028", "日", "\U0001f600", "\x80", "\xe3\x81", "\xff", "\xc0\xa0", "\xc0\x8a", "\xed\xa0\x80"}
	for range 5000 {
		look(t, draw(next, next(60), pieces))
	}
	var bytes []string
	for b := range 256 {
		bytes = append(bytes, string([]byte{byte(b)}))
	}
	for range 2000 {
		look(t, draw(next, next(200), append(bytes, pieces[:6]...)))
	}
}

// P6.1, and the rule for sizes: no text is too long, and no word, line or remark of it.
func TestLong(t *testing.T) {
	const n = 1 << 18
	l := lex.Words(strings.Repeat("a ", n))
	if len(l) != n || l[n-1] != word(2*n-2, "a") {
		t.Errorf("%d words, the last one %v", len(l), l[len(l)-1])
	}
	if got := lex.Lines(strings.Repeat("\n", n) + "a"); len(got) != 1 || len(got[0]) != 1 || got[0][0] != (api.Word{At: n, Line: n + 1, Text: "a"}) {
		t.Errorf("behind %d lines: %v", n, got)
	}
	if got := lex.Lines(strings.Repeat("é\n", n)); len(got) != n || got[n-1][0] != (api.Word{At: 3*n - 3, Line: n, Text: "é"}) {
		t.Errorf("%d lines with words", len(got))
	}
	long := strings.Repeat("é", n)
	if got := lex.Words(long + "#" + long + "\n" + long); !slices.Equal(got, []api.Word{word(0, long), {At: 4*n + 2, Line: 2, Text: long}}) {
		t.Errorf("%d long words", len(got))
	}
}

// P6.3: each word stands in the text at its place; between two of them, and around them, nothing is a word's.
func TestWordsAreText(t *testing.T) {
	next := drawer()
	for range 3000 {
		s := draw(next, next(50), []string{" ", "\t", "\n", "#", "a", "é", "\xff", "12"})
		m := marks(s)
		var b strings.Builder
		for _, w := range lex.Words(s) {
			b.WriteString(s[b.Len():w.At])
			b.WriteString(w.Text)
			for i := range len(w.Text) {
				m[w.At+i] = false
			}
			if w.Text == "" {
				t.Fatalf("%q: an empty word at %d", s, w.At)
			}
		}
		b.WriteString(s[b.Len():])
		is(t, "words and what lies between", b.String(), s)
		for i, left := range m {
			if left {
				t.Fatalf("%q: no word has the byte %d", s, i)
			}
		}
		// A word by itself, and all words with other things between, are the same words.
		var l []string
		for _, w := range lex.Words(s) {
			is(t, "a word alone", lex.Words(w.Text), []api.Word{word(0, w.Text)})
			l = append(l, w.Text)
		}
		for i, w := range lex.Words("#x\n\t" + strings.Join(l, " \t") + "  # y") {
			is(t, "a word", w.Text, l[i])
			is(t, "its line", w.Line, 2)
		}
	}
}

// number is what Number ought to tell.
func number(s string, most int64) (int64, bool) {
	if s == "" || strings.Trim(s, "0123456789") != "" || s != "0" && s[0] == '0' {
		return 0, false
	}
	n, _ := new(big.Int).SetString(s, 10)
	if n.Cmp(big.NewInt(most)) > 0 {
		return 0, false
	}
	return n.Int64(), true
}

// lookNumber holds what Number tells, and Numbers of the same text.
func lookNumber(t *testing.T, s string, most int64) {
	t.Helper()
	n, ok := lex.Number(s, most)
	want, wantOK := number(s, most)
	if n != want || ok != wantOK {
		t.Fatalf("Number %q %d: %d %v, want %d %v", s, most, n, ok, want, wantOK)
	}
	lookNumbers(t, s, most)
}

// lookNumbers holds what Numbers tells.
func lookNumbers(t *testing.T, s string, most int64) {
	t.Helper()
	var want []int64
	ok := true
	for _, one := range strings.Split(s, ",") {
		n, right := number(one, most)
		want, ok = append(want, n), ok && right
	}
	if !ok {
		want = nil
	}
	l, told := lex.Numbers(s, most)
	if !slices.Equal(l, want) || told != ok {
		t.Fatalf("Numbers %q %d: %v %v, want %v %v", s, most, l, told, want, ok)
	}
}

// P6.2: numbers that are told here.
func TestNumber(t *testing.T) {
	for _, c := range []struct {
		s    string
		most int64
		want int64
		ok   bool
	}{
		{"0", 0, 0, true}, {"0", 1, 0, true}, {"0", most, 0, true}, {"0", -1, 0, false}, {"0", math.MinInt64, 0, false},
		{"1", 0, 0, false}, {"1", 1, 1, true}, {"7", 9, 7, true}, {"9", 9, 9, true}, {"9", 8, 0, false}, {"9", 0, 0, false}, {"5", -5, 0, false}, {"5", math.MinInt64 + 3, 0, false},
		{"10", 9, 0, false}, {"10", 10, 10, true}, {"19", 20, 19, true}, {"20", 20, 20, true}, {"21", 20, 0, false}, {"29", 20, 0, false}, {"99", 99, 99, true}, {"100", 99, 0, false},
		{"120", 120, 120, true}, {"121", 120, 0, false}, {"130", 120, 0, false}, {"119", 120, 119, true}, {"1073741824", 1 << 30, 1 << 30, true}, {"1073741825", 1 << 30, 0, false},
		{"00", 9, 0, false}, {"01", 9, 0, false}, {"007", 9, 0, false}, {"000", most, 0, false}, {"0x1", most, 0, false}, {"0b1", most, 0, false}, {"0,", 9, 0, false},
		{"", 9, 0, false}, {"", 0, 0, false}, {"", -1, 0, false}, {"-", 9, 0, false}, {"-0", 9, 0, false}, {"-1", 9, 0, false}, {"+1", 9, 0, false}, {"+", 9, 0, false},
		{" 1", 9, 0, false}, {"1 ", 9, 0, false}, {"1 2", 99, 0, false}, {"1\n", 9, 0, false}, {"\t1", 9, 0, false}, {"1.0", 99, 0, false}, {"1e3", most, 0, false}, {"1_0", 99, 0, false}, {"1,0", 99, 0, false},
		{"a", most, 0, false}, {"1a", most, 0, false}, {"a1", most, 0, false}, {"/", 9, 0, false}, {":", most, 0, false}, {"1/", 99, 0, false}, {"1:", 99, 0, false}, {"\x00", 9, 0, false}, {"1\x00", 99, 0, false},
		{"\u0661", 9, 0, false}, {"\uff11", 9, 0, false}, {"1\uff11", 99, 0, false}, {"\u0130", 9, 0, false}, {"\u0131", 9, 0, false}, {"\U00010031", 9, 0, false}, {"\xff", 9, 0, false}, {"1\xb1", 99, 0, false}, {"1\x80", most, 0, false},
		{"9223372036854775807", most, most, true}, {"9223372036854775807", most - 1, 0, false}, {"9223372036854775806", most - 1, most - 1, true}, {"9223372036854775808", most, 0, false}, {"9223372036854775809", most, 0, false}, {"9223372036854775810", most, 0, false}, {"9223372036854775800", most, most - 7, true},
		{"9999999999999999999", most, 0, false}, {"10000000000000000000", most, 0, false}, {"18446744073709551615", most, 0, false}, {"18446744073709551616", most, 0, false}, {"18446744073709551617", most, 0, false}, {"18446744073709551621", 9, 0, false}, {"92233720368547758070", most, 0, false}, {"36893488147419103233", most, 0, false},
		{"1000000000000000000", most, 1000000000000000000, true}, {"999999999999999999", most, 999999999999999999, true},
		{"340282366920938463463374607431768211457", most, 0, false}, {strings.Repeat("1", 1000), most, 0, false}, {strings.Repeat("0", 1000), most, 0, false}, {"1" + strings.Repeat("0", 1<<20), most, 0, false}, {strings.Repeat("0", 1<<20) + "1", most, 0, false},
	} {
		n, ok := lex.Number(c.s, c.most)
		if n != c.want || ok != c.ok {
			t.Errorf("Number %.60q %d: %d %v, want %d %v", c.s, c.most, n, ok, c.want, c.ok)
		}
	}
}

// P6.2: each byte and each small rune by itself, and among digits.
func TestNumberBytes(t *testing.T) {
	for b := range 256 {
		s := string([]byte{byte(b)})
		for _, text := range []string{s, s + "1", "1" + s, "1" + s + "2"} {
			lookNumber(t, text, most)
			lookNumber(t, text, 11)
		}
	}
	for r := rune(0x80); r < 0x20000; r++ {
		if n, ok := lex.Number(string(r), most); n != 0 || ok {
			t.Fatalf("Number %q: %d %v", string(r), n, ok)
		}
	}
}

// P6.2: all short texts, and numbers on both sides of what they may be at most.
func TestNumberPlain(t *testing.T) {
	for _, s := range texts(4, "0", "1", "2", "9", "-", "+", " ", ",", "a", "é") {
		for _, n := range []int64{math.MinInt64, -1, 0, 1, 9, 10, 19, 21, 120, 991, most} {
			lookNumber(t, s, n)
		}
	}
	next := drawer()
	for range 20000 {
		n := int64(next(most))>>next(63) | int64(next(2))
		for step := -20; step <= 20; step++ {
			s := new(big.Int).Add(big.NewInt(n), big.NewInt(int64(step))).String()
			lookNumber(t, s, n)
		}
		s := fmt.Sprint(n)
		for _, text := range []string{s + "0", s + "9", "1" + s, s[:len(s)-1], s[1:], "0" + s, s + "," + s} {
			lookNumber(t, text, n)
		}
		// What is 2^64 more, or twice that, is the same number when it wraps.
		for shift := uint(62); shift < 70; shift++ {
			more := new(big.Int).Lsh(big.NewInt(1), shift)
			lookNumber(t, more.Add(more, big.NewInt(n)).String(), most)
		}
	}
}

// P6.2: rows of numbers that are told here.
func TestNumbers(t *testing.T) {
	for _, c := range []struct {
		s    string
		most int64
		want []int64
		ok   bool
	}{
		{"0", 0, []int64{0}, true}, {"7", 9, []int64{7}, true}, {"3,0,5", 9, []int64{3, 0, 5}, true}, {"5,5", 5, []int64{5, 5}, true}, {"0,0,0,0", 0, []int64{0, 0, 0, 0}, true},
		{"1,23,456", 456, []int64{1, 23, 456}, true}, {"1,23,456", 455, nil, false}, {"456,23,1", 455, nil, false}, {"9223372036854775807,0", most, []int64{most, 0}, true},
		{"", 9, nil, false}, {",", 9, nil, false}, {",,", 9, nil, false}, {"1,", 9, nil, false}, {",1", 9, nil, false}, {"1,,2", 9, nil, false}, {"1,2,", 9, nil, false}, {",1,2", 9, nil, false},
		{"1, 2", 9, nil, false}, {"1 ,2", 9, nil, false}, {" 1,2", 9, nil, false}, {"1,2 ", 9, nil, false}, {"1 2", 9, nil, false}, {"1;2", 9, nil, false}, {"1,2\n", 9, nil, false}, {"1\uff0c2", 9, nil, false},
		{"1,02", 9, nil, false}, {"00,1", 9, nil, false}, {"1,-2", 9, nil, false}, {"1,+2", 9, nil, false}, {"1,a", 9, nil, false}, {"a,1", 9, nil, false}, {"1,2,10", 9, nil, false}, {"10,1,2", 9, nil, false},
		{"0", -1, nil, false}, {"0,0", -1, nil, false}, {"1,9223372036854775808", most, nil, false}, {"18446744073709551617,1", most, nil, false},
	} {
		l, ok := lex.Numbers(c.s, c.most)
		is(t, fmt.Sprintf("Numbers %q %d", c.s, c.most), fmt.Sprint(l, ok), fmt.Sprint(c.want, c.ok))
		if !ok && len(l) != 0 {
			t.Errorf("Numbers %q %d: %v beside false", c.s, c.most, l)
		}
	}
	for _, s := range texts(7, "0", "1", "2", ",", "-") {
		lookNumbers(t, s, 1)
		lookNumbers(t, s, 20)
	}
	// What can't be told is seen at once, however long the rest is.
	if l, ok := lex.Numbers(strings.Repeat(",", 1<<22), 9); len(l) != 0 || ok {
		t.Errorf("Numbers of commas: %d %v", len(l), ok)
	}
}

// P6.2: digits of numbers on all sides.
func TestDigits(t *testing.T) {
	for _, n := range []int64{0, 1, 2, 9, 10, 11, 99, 100, 101, 1 << 30, 1 << 31, 1<<32 + 1, 1 << 40, 1 << 62, most - 1, most} {
		is(t, fmt.Sprint(n), lex.Digits(n), big.NewInt(n).String())
		is(t, fmt.Sprint(-n), lex.Digits(-n), big.NewInt(-n).String())
	}
	is(t, "the least one", lex.Digits(math.MinInt64), "-9223372036854775808")
	is(t, "less than nothing", lex.Digits(-7), "-7")
}

// P6.2: rows of digits.
func TestJoin(t *testing.T) {
	for _, c := range []struct {
		l    []int64
		want string
	}{
		{nil, ""}, {[]int64{}, ""}, {[]int64{0}, "0"}, {[]int64{-1}, "-1"}, {[]int64{3, 0, 5}, "3,0,5"}, {[]int64{-5, 0, 7}, "-5,0,7"}, {[]int64{0, 0}, "0,0"},
		{[]int64{math.MinInt64, most}, "-9223372036854775808,9223372036854775807"}, {[]int64{10, 100, 1}, "10,100,1"},
	} {
		is(t, fmt.Sprint("Join ", c.l), lex.Join(c.l), c.want)
	}
}

// P6.2: what stands ahead of the first =, and behind it.
func TestPair(t *testing.T) {
	for _, c := range []struct {
		s, name, value string
		ok             bool
	}{
		{"c=2", "c", "2", true}, {"use=1=2", "use", "1=2", true}, {"=", "", "", true}, {"==", "", "=", true}, {"a=", "a", "", true}, {"=a", "", "a", true}, {"a==b", "a", "=b", true},
		{" a = b ", " a ", " b ", true}, {"a#b=c\nd", "a#b", "c\nd", true}, {"\xff=\xe3\x81", "\xff", "\xe3\x81", true}, {"é=日", "é", "日", true}, {"\x00=\x00", "\x00", "\x00", true},
		{"", "", "", false}, {"a", "", "", false}, {"c:2", "", "", false}, {"c 2", "", "", false}, {"a\uff1db", "", "", false}, {"\xff", "", "", false}, {"\u013d", "", "", false},
	} {
		name, value, ok := lex.Pair(c.s)
		is(t, "Pair "+c.s, []any{name, value, ok}, []any{c.name, c.value, c.ok})
	}
	for _, s := range texts(5, "=", "a", " ", "\xff") {
		name, value, ok := lex.Pair(s)
		is(t, "Pair "+s, fmt.Sprint(ok), fmt.Sprint(strings.Contains(s, "=")))
		if ok && (name+"="+value != s || strings.Contains(name, "=")) || !ok && name+value != "" {
			t.Errorf("Pair %q: %q %q %v", s, name, value, ok)
		}
	}
}

// P6.3: what was put in digits is read: below 0 there is nothing to be read.
func TestDigitsAreRead(t *testing.T) {
	next := drawer()
	for range 5000 {
		var l []int64
		for range 1 + next(8) {
			l = append(l, int64(next(most))>>next(63))
		}
		greatest := slices.Max(l)
		for _, n := range l {
			got, ok := lex.Number(lex.Digits(n), greatest)
			is(t, lex.Digits(n), fmt.Sprint(got, ok), fmt.Sprint(n, true))
			got, ok = lex.Number(lex.Digits(-n-1), most)
			is(t, lex.Digits(-n-1), fmt.Sprint(got, ok), fmt.Sprint(0, false))
		}
		got, ok := lex.Numbers(lex.Join(l), greatest)
		is(t, fmt.Sprint(l), fmt.Sprint(got, ok), fmt.Sprint(l, true))
		got, ok = lex.Numbers(lex.Join(l), greatest-1)
		is(t, fmt.Sprint(l), fmt.Sprint(len(got), ok), fmt.Sprint(0, false))
		// A pair of a name and digits is one word, and is read again.
		w := lex.Words("use=" + lex.Join(l))
		name, value, some := lex.Pair(w[0].Text)
		is(t, "Pair", fmt.Sprint(len(w), name, value, some), fmt.Sprint(1, "use", lex.Join(l), true))
	}
}

// R3: what is handed in stays as it is; what is told is the caller's, and no two rows of it share anything.
func TestOwnMemory(t *testing.T) {
	l := []int64{3, -1, 7}
	lex.Join(l[:2])
	is(t, "what was joined", fmt.Sprint(l), "[3 -1 7]")

	s := "a b c\nd e\nf\n g h i j k"
	told := lex.Lines(s)
	for i := range told {
		// What is put behind a row, or into it, is seen in no other one.
		row := append(told[i], api.Word{Text: "more"})
		row[0].Text = "other"
		told[i][0].Text = "other"
		told[i] = append(told[i][:0], api.Word{}, api.Word{}, api.Word{})
		for k := i + 1; k < len(told); k++ {
			is(t, "another row", told[k], rows(plain(s))[k])
		}
	}
	is(t, "Lines again", lex.Lines(s), rows(plain(s)))

	first, second := lex.Words(s), lex.Words(s)
	clear(first)
	is(t, "Words again", second, plain(s))

	one, _ := lex.Numbers("1,2,3", 9)
	two, _ := lex.Numbers("1,2,3", 9)
	clear(one)
	is(t, "Numbers again", fmt.Sprint(two), "[1 2 3]")
}

// R4: nothing is kept: the same calls have the same answers, whatever was called between.
func TestSameAnswers(t *testing.T) {
	all := func() string {
		n, ok := lex.Number("12", 12)
		l, some := lex.Numbers("1,2", 2)
		name, value, pair := lex.Pair("a=b=c")
		return fmt.Sprint(lex.Words("a #b\n c"), lex.Lines("a #b\n c"), n, ok, l, some, name, value, pair, lex.Digits(-3), lex.Join(l))
	}
	first := all()
	lex.Words("#")
	lex.Lines("x\n\n#")
	lex.Number("9999999999999999999999", most)
	lex.Numbers("1,", 9)
	lex.Pair("a")
	is(t, "all again", all(), first)
}
