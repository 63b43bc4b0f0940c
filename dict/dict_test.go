package dict_test

import (
	"bytes"
	"fmt"
	"math/big"
	"math/rand"
	"slices"
	"strconv"
	"strings"
	"testing"

	"dragnet/api"
	"dragnet/dict"
	"dragnet/num"
)

// The helpers below follow the chapter's definitions by other means than the package does: the automaton of terms is made from the lists of what may follow, terms are listed path by path, states are held against one another two by two, and terms are counted without bound. Numbers are those of layer 2, which has tests of its own.

// to is an arc.
func to(x byte, state int) api.Arc {
	return api.Arc{Byte: x, To: state}
}

// final and plain are states.
func final(arcs ...api.Arc) api.State {
	return api.State{Final: true, Arcs: arcs}
}

func plain(arcs ...api.Arc) api.State {
	return api.State{Arcs: arcs}
}

// same reports whether both states have the same Final and the same arcs.
func same(s, t api.State) bool {
	return s.Final == t.Final && slices.Equal(s.Arcs, t.Arcs)
}

func equal(a, b []api.State) bool {
	return slices.EqualFunc(a, b, same)
}

// lists keeps which state stands for which list of strings that may follow.
type lists struct {
	a      []api.State
	states map[string]int
}

// state returns the state of the strings, which are in increasing order, and adds the states behind it before it.
func (l *lists) state(follow []string) int {
	var text strings.Builder
	for _, f := range follow {
		text.WriteString(strconv.Itoa(len(f)) + ":" + f)
	}
	key := text.String()
	if i, ok := l.states[key]; ok {
		return i
	}
	s := api.State{}
	for i := 0; i < len(follow); {
		if follow[i] == "" {
			s.Final = true
			i++
			continue
		}
		var behind []string
		x := follow[i][0]
		for ; i < len(follow) && follow[i][0] == x; i++ {
			behind = append(behind, follow[i][1:])
		}
		s.Arcs = append(s.Arcs, to(x, l.state(behind)))
	}
	l.states[key] = len(l.a)
	l.a = append(l.a, s)
	return len(l.a) - 1
}

// handBuild is the automaton of the terms. It has one state for each list of strings that may follow, and fewer can't do.
func handBuild(terms []string) []api.State {
	l := lists{states: map[string]int{}}
	l.state(terms)
	return l.a
}

// handTerms are the terms of an automaton that is formed, along all paths.
func handTerms(a []api.State) []string {
	var terms []string
	var follow func(state int, path string)
	follow = func(state int, path string) {
		if a[state].Final {
			terms = append(terms, path)
		}
		for _, arc := range a[state].Arcs {
			follow(arc.To, path+string([]byte{arc.Byte}))
		}
	}
	follow(len(a)-1, "")
	return terms
}

// handFormed reports whether a is formed, by each of the chapter's lines.
func handFormed(a []api.State) bool {
	if len(a) == 0 || len(a) > 1048576 {
		return false
	}
	targets := map[int]bool{len(a) - 1: true}
	for i, s := range a {
		for j := range s.Arcs {
			if s.Arcs[j].To < 0 || s.Arcs[j].To > i-1 {
				return false
			}
			if j > 0 && s.Arcs[j].Byte <= s.Arcs[j-1].Byte {
				return false
			}
			targets[s.Arcs[j].To] = true
		}
		for _, t := range a[:i] {
			if same(s, t) {
				return false
			}
		}
		if len(s.Arcs) == 0 && !s.Final && len(a) != 1 {
			return false
		}
	}
	return len(targets) == len(a)
}

// handFit reports whether a is fit.
func handFit(a []api.State) bool {
	if !handFormed(a) {
		return false
	}
	counts, lengths := make([]*big.Int, len(a)), make([]int, len(a))
	for i, s := range a {
		counts[i] = big.NewInt(0)
		if s.Final {
			counts[i] = big.NewInt(1)
		}
		for _, arc := range s.Arcs {
			counts[i].Add(counts[i], counts[arc.To])
			lengths[i] = max(lengths[i], lengths[arc.To]+1)
		}
	}
	start := len(a) - 1
	return counts[start].Cmp(big.NewInt(2147483647)) <= 0 && lengths[start] <= 255
}

// raw is the encoding of states, formed or not.
func raw(a []api.State) []byte {
	b := num.Put(nil, uint64(len(a)))
	for i, s := range a {
		head := uint64(len(s.Arcs)) << 1
		if s.Final {
			head |= 1
		}
		b = append(b, num.Put(nil, head)...)
		for _, arc := range s.Arcs {
			b = append(b, arc.Byte)
			b = append(b, num.Put(nil, uint64(i)-uint64(arc.To))...) // wraps round for an arc onward
		}
	}
	return b
}

// handTake reads the automaton that b begins with.
func handTake(b []byte) (a []api.State, size int, e api.Errno) {
	ok := true
	number := func() int {
		v, n, e := num.Take(b[size:])
		if e != api.OK || v > 1<<21 {
			ok = false
		}
		size += n
		return int(v)
	}
	for left := number(); ok && left > 0; left-- {
		head := number()
		s := api.State{Final: head&1 == 1}
		for ; ok && head > 1; head -= 2 {
			if size == len(b) {
				ok = false
				break
			}
			x := b[size]
			size++
			s.Arcs = append(s.Arcs, to(x, len(a)-number()))
		}
		a = append(a, s)
	}
	if !ok || !handFit(a) {
		return nil, 0, api.ErrForm
	}
	return a, size, api.OK
}

// lists of terms, and automata of many kinds

func source() *rand.Rand {
	return rand.New(rand.NewSource(1))
}

func someBytes(r *rand.Rand, n int) []byte {
	b := make([]byte, n)
	r.Read(b)
	return b
}

// sorted returns the strings in increasing order, each once, without the empty one.
func sorted(l []string) []string {
	l = slices.Clone(l)
	slices.Sort(l)
	l = slices.Compact(l)
	return slices.DeleteFunc(l, func(s string) bool { return s == "" })
}

// someTerms returns up to n terms of up to most bytes, of few or many different bytes or of words.
func someTerms(r *rand.Rand, n, most int) []string {
	alphabets := []string{"a", "ab", "abc", "0123456789", "\x00\xff", "\x00\x01\x7f\x80\xfe\xff"}
	words := []string{"err", "or", "warn", "ing", "s", "user=", "ann", "bob", "un", "10.0.", "7"}
	kind := r.Intn(len(alphabets) + 2)
	var l []string
	for range n {
		b := someBytes(r, 1+r.Intn(most))
		if kind < len(alphabets) {
			for i := range b {
				b[i] = alphabets[kind][r.Intn(len(alphabets[kind]))]
			}
		} else if kind == len(alphabets) {
			text := ""
			for range 1 + r.Intn(4) {
				text += words[r.Intn(len(words))]
			}
			b = []byte(text)[:min(len(text), most)]
		}
		l = append(l, string(b))
	}
	return sorted(l)
}

// knownTerms are lists of edges.
func knownTerms() [][]string {
	var every, pairs []string
	for x := range 256 {
		every = append(every, string([]byte{byte(x)}))
		pairs = append(pairs, string([]byte{byte(x), byte(255 - x)}))
	}
	long := strings.Repeat("a", 255)
	return [][]string{
		nil, {}, {"a"}, {"\x00"}, {"\xff"}, {"ab"}, {"a", "ab"}, {"a", "b"}, {"ab", "cb"}, {"ab", "b"}, {"a", "ab", "abc", "b", "bc", "error", "terror"},
		{"aa", "ab", "ba", "bb"}, {"a", "aa", "aaa", "aaaa"}, {"aab", "ab", "b"}, {"abcd", "bcd", "cd", "d"}, {"ab", "abab", "ababab"}, {"\x00", "\x00\x00", "\xff", "\xff\xff"},
		{"mon", "thu", "tue", "wed"}, {"tap", "taps", "top", "tops"}, {"a\x00", "a\x00b", "a\xff"}, {"\x7f", "\x80"}, {"é", "ü", "日本"},
		every, pairs, slices.Concat(every[:3], pairs[3:]), {long}, {long[1:], long}, {long, long[1:] + "b"}, {long[:1], long, "b" + long[1:]}, {long, "b", "c" + long[:200]},
	}
}

// termLists returns known lists, and others of many sizes.
func termLists(r *rand.Rand) [][]string {
	list := knownTerms()
	for range 6 {
		for _, n := range []int{1, 2, 3, 5, 10, 30, 100, 300} {
			for _, most := range []int{1, 2, 3, 6, 20} {
				list = append(list, someTerms(r, n, most))
			}
		}
	}
	return append(list, someTerms(r, 30, 255), someTerms(r, 30, 255))
}

// shuffle returns an automaton with the same terms whose states stand in any order that is formed.
func shuffle(r *rand.Rand, a []api.State) []api.State {
	places := map[int]int{}
	var b []api.State
	left := r.Perm(len(a))
	for len(left) > 0 {
		for k, i := range left {
			s := api.State{Final: a[i].Final}
			for _, arc := range a[i].Arcs {
				if p, ok := places[arc.To]; ok {
					s.Arcs = append(s.Arcs, to(arc.Byte, p))
				}
			}
			if len(s.Arcs) == len(a[i].Arcs) {
				places[i] = len(b)
				b = append(b, s)
				left = slices.Delete(left, k, k+1)
				break
			}
		}
	}
	return b
}

// withEmpty returns the automaton with the empty term besides.
func withEmpty(a []api.State) []api.State {
	a = slices.Clone(a)
	a[len(a)-1].Final = true
	return a
}

// chain is the automaton of n bytes a.
func chain(n int) []api.State {
	a := []api.State{final()}
	for i := range n {
		a = append(a, plain(to('a', i)))
	}
	return a
}

// automata returns fit automata: those of lists, others with their states in another order, and others with the empty term.
func automata(r *rand.Rand) [][]api.State {
	var list [][]api.State
	for _, terms := range termLists(r) {
		a := handBuild(terms)
		b := shuffle(r, a)
		list = append(list, a, b, withEmpty(a), withEmpty(b))
	}
	return list
}

// unfit are lists of states that are not fit.
func unfit() [][]api.State {
	leaf := final()
	list := [][]api.State{
		nil, {},
		{plain(), plain()}, {leaf, leaf}, {plain(), leaf}, {leaf, plain()}, // a state that leads nowhere, or to which nothing leads
		{plain(to('a', 0))}, {final(to('a', 0))}, {plain(to('a', 1))}, {plain(to('a', -1))}, {final(to('a', -1))}, {plain(to('a', -1<<63))}, {plain(to('a', 1<<62))},
		{leaf, plain(to('a', 1))}, {leaf, plain(to('a', 2))}, {leaf, plain(to('a', -1))}, {leaf, plain(to('a', 0), to('b', 1))}, {leaf, plain(to('a', -1), to('b', 0))},
		{leaf, plain(to('a', 0), to('b', 1<<63-1))}, {leaf, plain(to('a', 0), to('b', -1<<63))}, {leaf, plain(to('a', 1<<32))}, {leaf, plain(to('a', 1<<20))}, {leaf, plain(to('a', 256))},
		{plain(to('a', 1)), leaf}, {plain(to('a', 1)), plain(to('a', 0))}, {leaf, plain(to('a', 2)), plain(to('a', 1))}, // an arc onward
		{leaf, plain(to('b', 0), to('a', 0))}, {leaf, plain(to('a', 0), to('a', 0))}, {leaf, plain(to('a', 0), to('b', 0), to('b', 0))}, {leaf, plain(to('\xff', 0), to('\x00', 0))}, {leaf, plain(to('a', 0), to('c', 0), to('b', 0))},
		{leaf, plain(to('a', 0)), plain(to('a', 0))}, {leaf, plain(to('a', 0)), plain(to('b', 0))}, {leaf, plain(to('a', 0)), plain(to('b', 0)), plain(to('c', 1))}, // nothing leads to one
		{leaf, plain(to('a', 0)), plain(to('a', 0)), plain(to('a', 1), to('b', 2))}, {leaf, final(to('a', 0)), final(to('a', 0)), plain(to('a', 1), to('b', 2))}, // two of the same contents
		{leaf, leaf, plain(to('a', 0), to('b', 1))}, {leaf, plain(to('a', 0)), plain(to('b', 0)), plain(to('a', 0)), plain(to('a', 1), to('b', 2), to('c', 3))},
		{leaf, plain(to('a', 0), to('b', 0)), plain(to('a', 0), to('b', 0)), plain(to('a', 1), to('b', 2))},
		{plain(), plain(to('a', 0))}, {plain(), leaf, plain(to('a', 0), to('b', 1))}, {leaf, plain(), plain(to('a', 0), to('b', 1))}, {plain(), final(to('a', 0))}, // a state that leads nowhere
		chain(256), chain(257), chain(1000), {leaf, plain(to('a', 0)), leaf}, slices.Concat(chain(3), chain(3)),
		slices.Concat(chain(255), []api.State{plain(to('a', 0), to('b', 255))}), slices.Concat(chain(255), []api.State{final(to('a', 255), to('b', 0))}), // the longest term is not the first one, or not the last one
	}
	for n := 2; n < 40; n += 9 {
		list = append(list, slices.Repeat([]api.State{leaf}, n), make([]api.State, n), chain(n)[1:], slices.Concat(chain(n), []api.State{plain()}), slices.Concat(chain(n), []api.State{leaf}))
	}
	return list
}

// great returns a formed automaton with exactly n states, thousands of them at least. Two states for each of the bytes lead to each of the first ones, one of them Final; others lead to all that no state leads to yet.
func great(n int, bytes string) []api.State {
	a, next := []api.State{final()}, 0
	for len(a)+(len(a)-next/2/len(bytes))/255+20 < n {
		x, i := bytes[next/2%len(bytes)], next/2/len(bytes)
		a = append(a, api.State{Final: next%2 == 1, Arcs: []api.Arc{to(x, i)}})
		next++
	}
	open := []int{}
	for i := (next-1)/2/len(bytes) + 1; i < len(a); i++ {
		open = append(open, i)
	}
	for len(open) > 1 {
		s := plain()
		for x, i := range open[:min(len(open), 256)] {
			s.Arcs = append(s.Arcs, to(byte(x), i))
		}
		open = append(open[len(s.Arcs):], len(a))
		a = append(a, s)
	}
	for len(a) < n {
		a = append(a, plain(to('z', len(a)-1)))
	}
	return a
}

// fans returns states that have the same number of arcs to the state ahead of them each.
func fans(states, arcs int, s api.State) []api.State {
	a := []api.State{final()}
	for i := range states - 1 {
		s.Arcs = nil
		for x := range arcs {
			s.Arcs = append(s.Arcs, to(byte(x), i))
		}
		a = append(a, s)
	}
	return a
}

// everyByte are the bytes from 0 to 255.
func everyByte() string {
	b := make([]byte, 256)
	for x := range b {
		b[x] = byte(x)
	}
	return string(b)
}

// show tells the first states of a.
func show(a []api.State) string {
	return fmt.Sprint(a[:min(len(a), 8)])
}

func checkBuild(t *testing.T, terms []string, want []api.State, e api.Errno) {
	t.Helper()
	got, gotE := dict.Build(terms)
	if !equal(got, want) || gotE != e {
		t.Errorf("Build(%.80q of %d terms) = %s of %d states, error %d; want %s of %d states, error %d",
			terms, len(terms), show(got), len(got), gotE, show(want), len(want), e)
	}
}

// checkText holds Find and Prefix against the terms of a.
func checkText(t *testing.T, a []api.State, terms []string, text string) {
	t.Helper()
	number, e := slices.Index(terms, text), api.OK
	if number < 0 {
		number, e = 0, api.ErrNone
	}
	if n, gotE := dict.Find(a, text); n != number || gotE != e {
		t.Errorf("Find(%s, %.80q) = %d, error %d; want %d, error %d", show(a), text, n, gotE, number, e)
	}
	from, to := 0, 0
	for i, term := range terms {
		if strings.HasPrefix(term, text) {
			if to == 0 {
				from = i
			}
			to = i + 1
		}
	}
	if x, y := dict.Prefix(a, text); x != from || y != to {
		t.Errorf("Prefix(%s, %.80q) = %d, %d; want %d, %d", show(a), text, x, y, from, to)
	}
}

func checkTerm(t *testing.T, a []api.State, n int, want string, e api.Errno) {
	t.Helper()
	if s, gotE := dict.Term(a, n); s != want || gotE != e {
		t.Errorf("Term(%s of %d states, %d) = %.80q, error %d; want %.80q, error %d", show(a), len(a), n, s, gotE, want, e)
	}
}

// checkTerms asks that a is fit and has exactly these terms, whatever their number; of many terms it tries some.
func checkTerms(t *testing.T, r *rand.Rand, a []api.State, terms []string) {
	t.Helper()
	if !dict.Fit(a) || dict.Count(a) != len(terms) {
		t.Errorf("Fit(%s) = %t, Count = %d, want true, %d", show(a), dict.Fit(a), dict.Count(a), len(terms))
	}
	for _, n := range []int{-1, len(terms), len(terms) + 1, 1 << 31, 1 << 32, -1 << 63, 1<<63 - 1} {
		checkTerm(t, a, n, "", api.ErrNone)
	}
	for _, text := range []string{"", "\x00", "a", "b", "\xff", strings.Repeat("a", 256), strings.Repeat("a", 5000)} {
		checkText(t, a, terms, text)
	}
	tried := r.Perm(len(terms))
	for _, i := range tried[:min(len(tried), 8)] {
		term := terms[i]
		checkTerm(t, a, i, term, api.OK)
		cut := r.Intn(len(term) + 1)
		changed := term[:cut] + string(someBytes(r, 1)) + term[min(cut+1, len(term)):]
		for _, text := range []string{term, term[:cut], term[cut:], changed, term + "a", term + "\x00", term + term, term[:cut] + "a"} {
			checkText(t, a, terms, text)
		}
	}
}

// checkUnfit asks that all functions refuse a.
func checkUnfit(t *testing.T, a []api.State) {
	t.Helper()
	if dict.Fit(a) || dict.Count(a) != 0 {
		t.Errorf("Fit(%s of %d states) = %t, Count = %d", show(a), len(a), dict.Fit(a), dict.Count(a))
	}
	for _, text := range []string{"", "a", "b", "aaa"} {
		if n, e := dict.Find(a, text); n != 0 || e != api.ErrArg {
			t.Errorf("Find(%s of %d states, %q) = %d, error %d", show(a), len(a), text, n, e)
		}
		if from, to := dict.Prefix(a, text); from != 0 || to != 0 {
			t.Errorf("Prefix(%s of %d states, %q) = %d, %d", show(a), len(a), text, from, to)
		}
	}
	for _, n := range []int{-1, 0, 1, 1 << 40} {
		checkTerm(t, a, n, "", api.ErrArg)
	}
	for _, b := range [][]byte{nil, {1, 2}} {
		checkPut(t, b, a, nil, api.ErrArg)
	}
}

func checkPut(t *testing.T, b []byte, a []api.State, want []byte, e api.Errno) {
	t.Helper()
	got, gotE := dict.Put(b, a)
	if !bytes.Equal(got, want) || gotE != e {
		t.Errorf("Put(%.20x, %s of %d states) = %.60x of %d bytes, error %d; want %.60x of %d bytes, error %d",
			b, show(a), len(a), got, len(got), gotE, want, len(want), e)
	}
}

func checkTake(t *testing.T, b []byte, a []api.State, size int, e api.Errno) {
	t.Helper()
	got, gotSize, gotE := dict.Take(b)
	if !equal(got, a) || gotSize != size || gotE != e {
		t.Errorf("Take(%.60x of %d bytes) = %s of %d states, %d, error %d; want %s of %d states, %d, error %d",
			b, len(b), show(got), len(got), gotSize, gotE, show(a), len(a), size, e)
	}
}

// checkTakeAny holds Take against the definition.
func checkTakeAny(t *testing.T, b []byte) (taken bool) {
	t.Helper()
	a, size, e := handTake(b)
	checkTake(t, b, a, size, e)
	return e == api.OK
}

// checkBytes asks that the bytes, and more behind them, are read as the automaton.
func checkBytes(t *testing.T, b []byte, a []api.State) {
	t.Helper()
	for _, behind := range [][]byte{nil, {0}, {1}, {255}, {2, 97, 1}, make([]byte, 40)} {
		checkTake(t, slices.Concat(b, behind), a, len(b), api.OK)
	}
}

// checkNone asks that the bytes are refused, by the definition too.
func checkNone(t *testing.T, b []byte) {
	t.Helper()
	checkTake(t, b, nil, 0, api.ErrForm)
	if checkTakeAny(t, b) {
		t.Errorf("%.60x is an automaton", b)
	}
}

// P12.1: the chapter's examples.

func TestExamples(t *testing.T) {
	a := []api.State{final(), plain(to('b', 0)), plain(to('a', 1), to('c', 1))}
	checkBuild(t, []string{"ab", "cb"}, a, api.OK)
	checkBuild(t, nil, []api.State{plain()}, api.OK)
	if from, to := dict.Prefix(a, "c"); from != 1 || to != 2 {
		t.Errorf("Prefix = %d, %d", from, to)
	}
}

// P12.1: Build.

// Automata that were found by hand.
func TestBuildOfKnownTerms(t *testing.T) {
	cases := []struct {
		terms []string
		a     []api.State
	}{
		{[]string{"a"}, []api.State{final(), plain(to('a', 0))}},
		{[]string{"\x00", "\xff"}, []api.State{final(), plain(to(0, 0), to(255, 0))}},
		{[]string{"a", "ab"}, []api.State{final(), final(to('b', 0)), plain(to('a', 1))}},
		{[]string{"ab", "b"}, []api.State{final(), plain(to('b', 0)), plain(to('a', 1), to('b', 0))}},
		{[]string{"a", "bc"}, []api.State{final(), plain(to('c', 0)), plain(to('a', 0), to('b', 1))}},
		{[]string{"aa", "ba"}, []api.State{final(), plain(to('a', 0)), plain(to('a', 1), to('b', 1))}},
		{[]string{"aa", "ab", "ba", "bb"}, []api.State{final(), plain(to('a', 0), to('b', 0)), plain(to('a', 1), to('b', 1))}},
		{[]string{"a", "aa"}, []api.State{final(), final(to('a', 0)), plain(to('a', 1))}},
		{[]string{"a", "ab", "abc", "b", "bc"}, []api.State{final(), final(to('c', 0)), final(to('b', 1)), plain(to('a', 2), to('b', 1))}},
		{[]string{"ac", "b", "bc"}, []api.State{final(), plain(to('c', 0)), final(to('c', 0)), plain(to('a', 1), to('b', 2))}},
		{[]string{"tap", "taps", "top", "tops"}, []api.State{final(), final(to('s', 0)), plain(to('p', 1)), plain(to('a', 2), to('o', 2)), plain(to('t', 3))}},
		{[]string{"abx", "acy", "b", "cx"}, []api.State{final(), plain(to('x', 0)), plain(to('y', 0)), plain(to('b', 1), to('c', 2)), plain(to('a', 3), to('b', 0), to('c', 1))}},
	}
	for _, c := range cases {
		checkBuild(t, c.terms, c.a, api.OK)
		if !equal(handBuild(c.terms), c.a) {
			t.Errorf("the automaton of %q is not %s", c.terms, show(c.a))
		}
	}
}

func TestBuildFollowsTheDefinition(t *testing.T) {
	r := source()
	for range 5 {
		for _, terms := range termLists(r) {
			checkBuild(t, terms, handBuild(terms), api.OK)
		}
	}
}

// shortStrings are the strings of 1 to most of the bytes, in increasing order.
func shortStrings(alphabet string, most int) []string {
	var l []string
	if most > 0 {
		for _, x := range []byte(alphabet) {
			l = append(l, string([]byte{x}))
			for _, s := range shortStrings(alphabet, most-1) {
				l = append(l, string([]byte{x})+s)
			}
		}
	}
	return l
}

// Of each set of short strings, every text is asked for.
func TestAllSetsOfShortTerms(t *testing.T) {
	for _, all := range [][]string{shortStrings("abc", 2), shortStrings("\x00\xff", 3)[:11]} {
		texts := append(all, "", "d", "ad", "aba", "abab", "ccc", "\x00\xff\xff\xff")
		for set := range 1 << len(all) {
			var terms []string
			for i, s := range all {
				if set>>i&1 == 1 {
					terms = append(terms, s)
				}
			}
			a := handBuild(terms)
			checkBuild(t, terms, a, api.OK)
			for _, text := range texts {
				checkText(t, a, terms, text)
			}
			for i, term := range terms {
				checkTerm(t, a, i, term, api.OK)
			}
			checkTerm(t, a, len(terms), "", api.ErrNone)
		}
	}
}

func TestBuildOfWrongOrder(t *testing.T) {
	wrong := [][]string{
		{"a", "a"}, {"b", "a"}, {"ab", "a"}, {"ab", "aa"}, {"\x80", "\x7f"}, {"\xff", "\x00"}, {"a\x00", "a"}, {"é", "z"}, {"a", "B"}, {"b", "aa"}, {"aa", "b", "ab"}, {"a", "b", "b"}, {"a", "b", "a"}, {"a", "c", "b", "d"},
		{"", ""}, {"a", ""}, {"", "a"}, {""}, {"a", "b", ""}, {strings.Repeat("a", 255), strings.Repeat("a", 255)}, {"9", "10"},
	}
	for _, terms := range wrong {
		checkBuild(t, terms, nil, api.ErrArg)
	}
	r := source()
	for _, terms := range termLists(r) {
		for range 3 {
			if len(terms) < 2 {
				continue
			}
			i := r.Intn(len(terms) - 1)
			swapped := slices.Clone(terms)
			swapped[i], swapped[i+1] = swapped[i+1], swapped[i]
			checkBuild(t, swapped, nil, api.ErrArg)
			checkBuild(t, slices.Insert(slices.Clone(terms), i, terms[i]), nil, api.ErrArg)
		}
	}
}

func TestBuildOfShortAndLongTerms(t *testing.T) {
	for n := range 600 {
		term := strings.Repeat("a", n)
		for _, terms := range [][]string{{term}, {term, "b"}, {"0", term}, {"0", term, "b"}} {
			if n >= 1 && n <= 255 {
				checkBuild(t, terms, handBuild(terms), api.OK)
			} else {
				checkBuild(t, terms, nil, api.ErrArg)
			}
		}
	}
	for _, n := range []int{1 << 16, 1<<16 + 1, 1 << 20, 1<<20 + 255} {
		checkBuild(t, []string{"0", strings.Repeat("a", n)}, nil, api.ErrArg)
	}
	a := chain(255)
	checkBuild(t, []string{strings.Repeat("a", 255)}, a, api.OK)
	checkTerm(t, a, 0, strings.Repeat("a", 255), api.OK)
}

// P12.1: Fit, and what the functions answer where it is false.

func TestUnfit(t *testing.T) {
	for _, a := range unfit() {
		if handFit(a) {
			t.Fatalf("%s is fit", show(a))
		}
		checkUnfit(t, a)
	}
}

// someStates are all states with up to two arcs by few bytes to few states, formed or not.
func someStates(targets []int) []api.State {
	var arcs []api.Arc
	for _, i := range targets {
		arcs = append(arcs, to('a', i), to('b', i))
	}
	list := []api.State{plain(), final()}
	for _, x := range arcs {
		list = append(list, plain(x), final(x))
		for _, y := range arcs {
			list = append(list, plain(x, y), final(x, y))
		}
	}
	return list
}

// checkAutomaton holds all functions against the definition.
func checkAutomaton(t *testing.T, a []api.State) (fit bool) {
	t.Helper()
	if !handFit(a) {
		checkUnfit(t, a)
		checkTake(t, raw(a), nil, 0, api.ErrForm)
		return false
	}
	terms := handTerms(a)
	if !dict.Fit(a) || dict.Count(a) != len(terms) {
		t.Errorf("Fit(%s) = %t, Count = %d, want true, %d", show(a), dict.Fit(a), dict.Count(a), len(terms))
	}
	for i, term := range terms {
		checkTerm(t, a, i, term, api.OK)
	}
	checkTerm(t, a, len(terms), "", api.ErrNone)
	for _, text := range append(terms, "", "a", "b", "ab", "ba", "c", "abab") {
		checkText(t, a, terms, text)
	}
	checkPut(t, []byte{7}, a, append([]byte{7}, raw(a)...), api.OK)
	checkTake(t, append(raw(a), 7), a, len(raw(a)), api.OK)
	return true
}

func TestAllSmallAutomata(t *testing.T) {
	fit := 0
	try := func(a ...api.State) {
		if checkAutomaton(t, a) {
			fit++
		}
	}
	for _, s := range someStates([]int{-1, 0, 1}) {
		try(s)
		for _, u := range someStates([]int{-1, 0, 1}) {
			try(s, u)
		}
	}
	for _, s := range someStates([]int{0}) {
		for _, u := range someStates([]int{0, 1}) {
			for _, v := range someStates([]int{0, 1, 2}) {
				try(s, u, v)
			}
		}
	}
	if fit != 2+6+6*10 { // one, two and three states
		t.Errorf("%d automata are fit", fit)
	}
}

// someAutomaton returns states most of which may stand in an automaton.
func someAutomaton(r *rand.Rand) []api.State {
	a := []api.State{final()}
	for i := range r.Intn(6) {
		s := api.State{Final: r.Intn(3) == 0}
		for x := range 4 {
			if r.Intn(3) > 0 {
				s.Arcs = append(s.Arcs, to("abyz"[x], max(0, i-r.Intn(2))))
			}
		}
		a = append(a, s)
	}
	return a
}

func TestSomeAutomata(t *testing.T) {
	r, fit, not := source(), 0, 0
	for range 30000 {
		a := someAutomaton(r)
		if r.Intn(3) == 0 {
			i := r.Intn(len(a))
			if s := a[i]; len(s.Arcs) > 0 {
				s.Arcs[r.Intn(len(s.Arcs))].To = r.Intn(len(a)+2) - 1
			} else {
				a[i].Final = false
			}
		}
		if checkAutomaton(t, a) {
			fit++
		} else {
			not++
		}
	}
	if fit < 5000 || not < 5000 {
		t.Errorf("%d automata are fit, %d are not", fit, not)
	}
}

// An automaton that is spoilt in one place is refused.
func TestSpoiltAutomata(t *testing.T) {
	r := source()
	for _, whole := range automata(r) {
		if len(whole) > 300 {
			continue
		}
		for range 4 {
			a := make([]api.State, len(whole))
			for i, s := range whole {
				a[i] = api.State{Final: s.Final, Arcs: slices.Clone(s.Arcs)}
			}
			i := r.Intn(len(a))
			arcs := a[i].Arcs
			switch kind := r.Intn(8); {
			case kind == 0:
				a[i].Final = !a[i].Final
			case kind == 1:
				a = slices.Delete(a, i, i+1)
			case kind == 2:
				a = slices.Insert(a, i, a[r.Intn(len(a))])
			case kind == 3 && i > 0:
				a[i], a[i-1] = a[i-1], a[i]
			case kind == 4 && len(arcs) > 0:
				arcs[r.Intn(len(arcs))].To = r.Intn(len(a))
			case kind == 5 && len(arcs) > 0:
				arcs[r.Intn(len(arcs))].Byte++
			case kind == 6 && len(arcs) > 0:
				a[i].Arcs = slices.Delete(arcs, 0, 1)
			case kind == 7 && len(arcs) > 1:
				arcs[0], arcs[1] = arcs[1], arcs[0]
			}
			if handFit(a) != dict.Fit(a) {
				t.Errorf("Fit(%s) = %t", show(a), dict.Fit(a))
			}
			checkTakeAny(t, raw(a))
		}
	}
}

// Two states are the same only if Final and each arc are: their bytes, their targets, and how many they are.
func TestStatesThatDifferInOnePlace(t *testing.T) {
	leaf, one := final(), plain(to('a', 0))
	pairs := [][2]api.State{
		{plain(to('a', 1)), final(to('a', 1))}, {plain(to('a', 1)), plain(to('b', 1))}, {plain(to('a', 1)), plain(to('a', 0), to('b', 1))}, {plain(to('a', 1)), plain(to('a', 1), to('b', 1))},
		{plain(to('a', 0), to('b', 1)), plain(to('a', 1), to('b', 0))}, {plain(to('a', 1), to('b', 0)), plain(to('a', 1), to('c', 0))}, {plain(to('a', 1), to('b', 0)), final(to('a', 1), to('b', 0))},
		{plain(to('\x00', 1)), plain(to('\x00', 0), to('\x01', 1))}, {plain(to('\x00', 1)), plain(to('\x01', 1))}, {plain(to('\x01', 1)), final(to('\x01', 1))}, {plain(to('\xff', 1)), plain(to('\x7f', 1))},
	}
	for _, p := range pairs {
		a := []api.State{leaf, one, p[0], p[1], plain(to('x', 2), to('y', 3))}
		checkAutomaton(t, a)
		if !dict.Fit(a) {
			t.Errorf("%s is not fit", show(a))
		}
		a[3] = a[2]
		checkUnfit(t, a)
	}
}

// P12.1: the limits.

func TestStatesOfTheLimit(t *testing.T) {
	every := everyByte()
	a := great(1<<20, every)
	if len(a) != 1<<20 || !dict.Fit(a) {
		t.Fatalf("%d states: Fit = %t", len(a), dict.Fit(a))
	}
	b := raw(a)
	checkPut(t, nil, a, b, api.OK)
	checkTake(t, append(b, 9), a, len(b), api.OK)
	last := dict.Count(a) - 1
	term, e := dict.Term(a, last)
	if n, gotE := dict.Find(a, term); e != api.OK || n != last || gotE != api.OK {
		t.Errorf("Find(%q) = %d, error %d; want %d", term, n, gotE, last)
	}
	for _, n := range []int{1<<20 + 1, 1<<20 + 256} {
		a := great(n, every)
		if len(a) != n {
			t.Fatalf("%d states", len(a))
		}
		checkUnfit(t, a)
		checkTake(t, raw(a), nil, 0, api.ErrForm)
	}
}

// The chapter names no error of Build for terms that need more states than fit; the other functions refuse what it returns.
func TestBuildOfTooManyStates(t *testing.T) {
	r := source()
	var terms []string
	for i := range 4200 {
		terms = append(terms, string([]byte{byte(i >> 8), byte(i)})+string(someBytes(r, 253)))
	}
	a, e := dict.Build(terms)
	if len(a) <= 1<<20 || e != api.OK {
		t.Errorf("%d states, error %d", len(a), e)
	}
	checkUnfit(t, a)
}

// Targets differ in each of their bits.
func TestFarTargets(t *testing.T) {
	a := great(1<<18+1000, "a")
	b, e := dict.Put(nil, a)
	if !dict.Fit(a) || !bytes.Equal(b, raw(a)) || e != api.OK {
		t.Fatalf("Fit = %t, error %d", dict.Fit(a), e)
	}
	checkTake(t, b, a, len(b), api.OK)
	for _, i := range []int{1 << 10, 1 << 16, 1<<17 + 1} {
		was := a[i]
		a[i] = a[i-2] // two states more alike than they may be
		if dict.Fit(a) {
			t.Errorf("state %d is one of two that are the same", i)
		}
		a[i] = was
	}
}

// A term has up to 255 bytes, whichever arcs lead to its end.
func TestLongestTerms(t *testing.T) {
	for n := 240; n < 270; n++ {
		a := chain(n)
		for _, a := range [][]api.State{a, withEmpty(a), slices.Concat(a[:n], []api.State{plain(to('a', 0), to('b', n-1))}), slices.Concat(a[:n], []api.State{final(to('a', n-1), to('b', 0))}), slices.Concat(a[:n], []api.State{plain(to('a', 0), to('b', n-1), to('c', 7))})} {
			if dict.Fit(a) != (n <= 255) {
				t.Errorf("a term of %d bytes: Fit = %t", n, dict.Fit(a))
			}
			checkTakeAny(t, raw(a))
			if n > 255 {
				checkUnfit(t, a)
			}
		}
	}
}

func TestManyTerms(t *testing.T) {
	r := source()
	a := fans(31, 2, final())
	if n := dict.Count(a); n != 1<<31-1 || !dict.Fit(a) {
		t.Errorf("Count = %d, Fit = %t", n, dict.Fit(a))
	}
	last := strings.Repeat("\x01", 30)
	checkTerm(t, a, 1<<31-2, last, api.OK)
	checkTerm(t, a, 1<<31-1, "", api.ErrNone)
	checkTerm(t, a, 30, strings.Repeat("\x00", 30), api.OK)
	checkTerm(t, a, 31, strings.Repeat("\x00", 29)+"\x01", api.OK)
	if n, e := dict.Find(a, last); n != 1<<31-2 || e != api.OK {
		t.Errorf("Find = %d, error %d", n, e)
	}
	for cut, want := range map[int][2]int{0: {0, 1<<31 - 1}, 1: {1 << 30, 1<<31 - 1}, 2: {1<<30 + 1<<29, 1<<31 - 1}, 30: {1<<31 - 2, 1<<31 - 1}} {
		if from, to := dict.Prefix(a, last[:cut]); from != want[0] || to != want[1] {
			t.Errorf("Prefix of %d bytes = %d, %d; want %v", cut, from, to, want)
		}
	}
	for range 30 {
		n := r.Intn(1<<31 - 1)
		term, e := dict.Term(a, n)
		if m, gotE := dict.Find(a, term); m != n || e != api.OK || gotE != api.OK {
			t.Errorf("Find(Term(%d)) = %d, errors %d and %d", n, m, e, gotE)
		}
	}
	b := raw(a)
	checkPut(t, nil, a, b, api.OK)
	checkBytes(t, b, a)
}

// Counts that are one more than fits, and such as wrap round to few.
func TestTooManyTerms(t *testing.T) {
	list := [][]api.State{fans(32, 2, plain()), fans(32, 2, final()), withEmpty(fans(32, 2, plain())), fans(33, 2, plain()), fans(64, 2, plain()), fans(65, 2, plain()), fans(66, 2, plain()), fans(256, 2, final())}
	for _, states := range []int{5, 6, 8, 9, 10, 17, 256} {
		a := fans(states, 256, plain())
		list = append(list, a, withEmpty(a), fans(states, 256, final()), fans(states, 255, plain()), slices.Concat(a, []api.State{plain(to('a', len(a)-1))}), slices.Concat(a, []api.State{plain(to('a', 0), to('b', len(a)-1))}))
	}
	for _, a := range list {
		if handFit(a) || !handFormed(a) {
			t.Fatalf("%d states: formed %t, fit %t", len(a), handFormed(a), handFit(a))
		}
		checkUnfit(t, a)
		checkTake(t, raw(a), nil, 0, api.ErrForm)
	}
	for _, a := range [][]api.State{fans(31, 2, plain()), fans(4, 256, plain()), fans(4, 256, final()), fans(21, 2, final()), fans(20, 2, plain())} {
		if !dict.Fit(a) || dict.Count(a) == 0 {
			t.Errorf("%d states are not fit", len(a))
		}
	}
}

// Automata with about as many terms as there may be.
func TestAboutAsManyTermsAsFit(t *testing.T) {
	r, fit, not := source(), 0, 0
	for range 3000 {
		a := fans(27+r.Intn(4), 2, plain())
		for range 3 + r.Intn(6) {
			s := api.State{Final: r.Intn(2) == 0, Arcs: []api.Arc{to('a', len(a)-1)}}
			for x := range r.Intn(3) {
				s.Arcs = append(s.Arcs, to("bc"[x], len(a)-1-r.Intn(6)))
			}
			a = append(a, s)
		}
		want := handFit(a)
		if dict.Fit(a) != want {
			t.Errorf("Fit(%s) = %t", show(a), dict.Fit(a))
		}
		if want {
			fit++
		} else {
			not++
		}
	}
	if fit < 500 || not < 500 {
		t.Errorf("%d automata are fit, %d are not", fit, not)
	}
	a := fans(31, 2, plain()) // 2^30 terms; with as many and all but one of another 2^30 they are as many as fit
	for i := 30; i > 0; i-- {
		a = append(a, plain(to('a', len(a)-1), to('b', i-1)))
	}
	if n := dict.Count(a); n != 1<<31-1 {
		t.Errorf("Count = %d", n)
	}
	checkUnfit(t, withEmpty(a))
	checkUnfit(t, append(a, plain(to('a', len(a)-1), to('b', 0))))
}

// P12.1 and P12.2: Count, Find, Prefix and Term.

func TestTerms(t *testing.T) {
	r := source()
	for _, terms := range termLists(r) {
		a, e := dict.Build(terms)
		if e != api.OK {
			t.Fatalf("Build(%.80q): error %d", terms, e)
		}
		checkTerms(t, r, a, terms)
	}
}

// The order of the states is no matter, and the empty term may be one.
func TestTermsOfOtherAutomata(t *testing.T) {
	r := source()
	for _, a := range automata(r) {
		checkTerms(t, r, a, handTerms(a))
	}
	checkTerms(t, r, []api.State{plain()}, nil)
	checkTerms(t, r, []api.State{final()}, []string{""})
}

// Build has each term at its place, and no others.
func TestBuildHasTheTerms(t *testing.T) {
	r := source()
	for _, terms := range termLists(r) {
		a, _ := dict.Build(terms)
		if got := handTerms(a); !slices.Equal(got, terms) {
			t.Errorf("the automaton of %.80q has the terms %.80q", terms, got)
		}
	}
}

// P12.3: no automaton with the same terms has fewer states.

func TestBuildIsMinimal(t *testing.T) {
	r := source()
	for _, terms := range termLists(r) {
		follow := map[string]int{} // the lists of what may follow what the terms begin with: each needs a state of its own
		if len(terms) == 0 {
			follow[""]++
		}
		for _, term := range terms {
			for cut := range len(term) + 1 {
				var list []byte
				for _, other := range terms {
					if behind, ok := strings.CutPrefix(other, term[:cut]); ok {
						list = num.PutRow(list, []byte(behind))
					}
				}
				follow[string(list)]++
			}
			if len(terms) > 60 {
				break
			}
		}
		a, _ := dict.Build(terms)
		if len(terms) <= 60 && len(a) != len(follow) {
			t.Errorf("the automaton of %.80q has %d states, want %d", terms, len(a), len(follow))
		}
	}
}

func TestOtherAutomataHaveNoFewerStates(t *testing.T) {
	r, tried := source(), 0
	for range 20000 {
		a := someAutomaton(r)
		if terms := handTerms(a); handFit(a) && !slices.Contains(terms, "") {
			got, e := dict.Build(terms)
			if len(got) > len(a) || e != api.OK {
				t.Errorf("the automaton of %.80q has %d states, %s has fewer", terms, len(got), show(a))
			}
			tried++
		}
	}
	if tried < 3000 {
		t.Errorf("%d automata were tried", tried)
	}
}

// P12.1: Put.

type known struct {
	a []api.State
	b string
}

// knownEncodings were found by hand.
func knownEncodings() []known {
	leaf := final()
	every := "\x02\x01\xf9\x00\x02"
	for x := range 256 {
		every += string([]byte{byte(x), 1})
	}
	return []known{
		{[]api.State{plain()}, "\x01\x00"},
		{[]api.State{leaf}, "\x01\x01"},
		{[]api.State{leaf, plain(to('a', 0))}, "\x02\x01\x02a\x01"},
		{[]api.State{leaf, final(to('a', 0))}, "\x02\x01\x03a\x01"},
		{[]api.State{leaf, plain(to(0, 0), to(255, 0))}, "\x02\x01\x04\x00\x01\xff\x01"},
		{[]api.State{leaf, plain(to('b', 0)), plain(to('a', 1), to('c', 1))}, "\x03\x01\x02b\x01\x04a\x01c\x01"},
		{[]api.State{leaf, final(to('b', 0)), plain(to('a', 1), to('c', 0))}, "\x03\x01\x03b\x01\x04a\x01c\x02"},
		{[]api.State{leaf, plain(to('x', 0)), plain(to('y', 0)), plain(to('a', 2), to('b', 1), to('c', 0))}, "\x04\x01\x02x\x01\x02y\x02\x06a\x01b\x02c\x03"},
		{fans(2, 123, final()), "\x02\x01\xf7" + every[5:5+2*123]},
		{fans(2, 124, plain()), "\x02\x01\xf8\xf8" + every[5:5+2*124]},
		{fans(2, 255, final()), "\x02\x01\xf9\xff\x01" + every[5:5+2*255]},
		{fans(2, 256, plain()), every},
		{fans(2, 256, final()), "\x02\x01\xf9\x01\x02" + every[5:]},
		{append(chain(246), plain(to('a', 0), to('b', 246))), "\xf8\xf8\x01" + strings.Repeat("\x02a\x01", 246) + "\x04a\xf7b\x01"},
		{append(chain(247), plain(to('a', 0), to('b', 247))), "\xf8\xf9\x01" + strings.Repeat("\x02a\x01", 247) + "\x04a\xf8\xf8b\x01"},
		{append(chain(254), final(to('\xff', 254))), "\xf9\x00\x01\x01" + strings.Repeat("\x02a\x01", 254) + "\x03\xff\x01"},
		{append(chain(254), plain(to('a', 0), to('b', 1), to('c', 254))), "\xf9\x00\x01\x01" + strings.Repeat("\x02a\x01", 254) + "\x06a\xf8\xffb\xf8\xfec\x01"},
	}
}

func TestKnownEncodings(t *testing.T) {
	for _, c := range knownEncodings() {
		if !handFit(c.a) {
			t.Fatalf("%s is not fit", show(c.a))
		}
		checkPut(t, nil, c.a, []byte(c.b), api.OK)
		checkBytes(t, []byte(c.b), c.a)
	}
}

func TestPutFollowsTheDefinition(t *testing.T) {
	r := source()
	for _, a := range automata(r) {
		for _, ahead := range [][]byte{nil, {}, {0}, {255}, {1, 1}, someBytes(r, 50)} {
			checkPut(t, ahead, a, slices.Concat(ahead, raw(a)), api.OK)
		}
	}
}

// P12.1 and P12.4: Take.

func TestTakeUndoesPut(t *testing.T) {
	r := source()
	for _, a := range automata(r) {
		b, e := dict.Put(nil, a)
		if e != api.OK {
			t.Fatalf("Put(%s): error %d", show(a), e)
		}
		for _, behind := range [][]byte{nil, {0}, {1}, {2}, {255}, b, someBytes(r, 50)} {
			checkTake(t, slices.Concat(b, behind), a, len(b), api.OK)
		}
	}
}

// Automata one behind the other are read one by one.
func TestAutomataInARow(t *testing.T) {
	r := source()
	list := automata(r)[:200]
	var b []byte
	for _, a := range list {
		out, e := dict.Put(b, a)
		if e != api.OK {
			t.Fatalf("Put(%s): error %d", show(a), e)
		}
		b = out
	}
	for _, a := range list {
		size := len(raw(a))
		checkTake(t, b, a, size, api.OK)
		b = b[size:]
	}
	checkNone(t, b)
}

func TestTakeOfUnfit(t *testing.T) {
	for _, a := range unfit() {
		checkNone(t, raw(a))
		checkNone(t, append(raw(a), make([]byte, 50)...))
	}
}

func TestTakeOfWrongBytes(t *testing.T) {
	wrong := []string{
		"", "\x00", "\x00\x00", "\x00\x01", "\x01", "\x02", "\xff", "\xf8", "\xf8\xf8", "\xf8\x01\x01", "\xf9\x01\x00\x01", // the number of states
		"\xff\xff\xff\xff\xff\xff\xff\xff\xff\x01", "\xff\x00\x00\x00\x00\x00\x00\x00\x80\x01", "\xff\x01\x00\x00\x00\x00\x00\x00\x80\x01", "\xfc\x01\x00\x00\x00\x01\x01", "\xfb\x01\x00\x00\x80\x01",
		"\xfa\x00\x00\x10\x01", "\xfa\x01\x00\x10\x01", "\xfa\xff\xff\xff\x01",
		"\x01\xf8\x01", "\x01\xf8\x00", "\x01\xff", "\x01\x02", "\x01\x02a", "\x01\x02a\x00", "\x01\x02a\x01", "\x01\x03a\x00", "\x01\x03a\x01", // a state
		"\x01\xff\x01\x00\x00\x00\x00\x00\x00\x80", "\x01\xff\xff\xff\xff\xff\xff\xff\xff\xff", "\x01\xfa\x00\x00\x10", "\x02\xff\x01\x00\x00\x00\x00\x00\x00\x80\x02a\x01", "\x02\xfc\x01\x00\x00\x00\x01\x02a\x01",
		"\x02\x01\x02", "\x02\x01\x02a", "\x02\x01\x02a\x00", "\x02\x01\x02a\x02", "\x02\x01\x02a\xf8\x01", "\x02\x01\xf8\x02a\x01", "\xf8\x02\x01\x02a\x01", "\x02\xf8\x01\x02a\x01",
		"\x02\x01\x02a\xff\xff\xff\xff\xff\xff\xff\xff\xff", "\x02\x01\x02a\xff\x01\x00\x00\x00\x00\x00\x00\x80", "\x02\x01\x02a\xfc\x01\x00\x00\x00\x01", "\x02\x01\x02a\xf9\x01\x01", // an arc
		"\x02\x01\x04a\x01a\x01", "\x02\x01\x04b\x01a\x01", "\x02\x01\x04a\x01b", "\x02\x01\x04a\x01", "\x02\x01\x04a\x01b\x00", "\x02\x01\x04a\x01b\x02",
		"\x02\x00\x02a\x01", "\x02\x01\x01", "\x02\x01\x00", "\x02\x00\x01", "\x02\x00\x00", "\x04\x01\x02a\x01\x02a\x02\x04a\x01b\x02", "\x03\x01\x02a\x01\x02b\x02", "\x03\x01\x01\x04a\x01b\x02",
	}
	for _, b := range wrong {
		checkNone(t, []byte(b))
		checkTakeAny(t, append([]byte(b), 1))
	}
	for _, b := range []string{"\x01\x00", "\x01\x01", "\x02\x01\x02a\x01", "\x02\x01\x04a\x01b\x01", "\x04\x01\x02a\x01\x02b\x02\x04a\x01b\x02"} {
		if !checkTakeAny(t, []byte(b)) {
			t.Errorf("%x is no automaton", b)
		}
	}
}

// 256 arcs are as many as a state can have.
func TestTakeOfManyArcs(t *testing.T) {
	for n := range 600 {
		a := fans(2, n, final())
		checkTakeAny(t, raw(a))
		b := []byte{2, 1}
		b = num.Put(b, uint64(2*n))
		for x := range n {
			b = append(b, byte(x), 1)
		}
		if taken := checkTakeAny(t, append(b, make([]byte, 9)...)); taken != (n >= 1 && n <= 256) {
			t.Errorf("%d arcs: taken %t", n, taken)
		}
	}
}

// The size that bytes claim is no more than a claim.
func TestTakeOfGreatClaims(t *testing.T) {
	for _, n := range []uint64{3, 1 << 10, 1 << 20, 1<<20 + 1, 1 << 31, 1 << 32, 1<<63 - 1, 1 << 63, 1<<64 - 1} {
		for _, behind := range [][]byte{nil, {1}, {1, 2, 'a', 1}, make([]byte, 1000)} {
			checkNone(t, append(num.Put(nil, n), behind...))
			checkNone(t, append(num.Put([]byte{2, 1}, n), behind...))
			checkNone(t, append(num.Put([]byte{2, 1, 2, 'a'}, n), behind...))
		}
	}
}

func TestTakeOfCutAutomata(t *testing.T) {
	r := source()
	for _, a := range automata(r) {
		b := raw(a)
		for size := 0; size < len(b); size += 1 + size/20 {
			checkTake(t, b[:size], nil, 0, api.ErrForm)
		}
		checkTake(t, slices.Clone(b[:len(b)-1]), nil, 0, api.ErrForm)
	}
}

func TestTakeOfChangedAutomata(t *testing.T) {
	r, taken, refused := source(), 0, 0
	try := func(b []byte) {
		if checkTakeAny(t, b) {
			taken++
		} else {
			refused++
		}
	}
	for range 60 {
		b := raw(handBuild(someTerms(r, 1+r.Intn(12), 6)))
		for i := range b {
			was := b[i]
			for _, x := range []byte{0, 1, was + 1, was - 1, was + 2, was ^ 0x80, ^was, 248, byte(r.Intn(256))} {
				b[i] = x
				try(b)
			}
			b[i] = was
			try(slices.Delete(slices.Clone(b), i, i+1))
			try(slices.Insert(slices.Clone(b), i, byte(r.Intn(3))))
		}
	}
	if taken < 1000 || refused < 1000 {
		t.Errorf("%d changed automata were taken, %d were not", taken, refused)
	}
}

// checkAll tries all ways to lay up to most of the bytes behind b.
func checkAll(t *testing.T, b, alphabet []byte, most int) (taken int) {
	t.Helper()
	if checkTakeAny(t, b) {
		taken++
	}
	if most > 0 {
		for _, x := range alphabet {
			taken += checkAll(t, append(b[:len(b):len(b)], x), alphabet, most-1)
		}
	}
	return taken
}

func TestTakeOfAllShortBytes(t *testing.T) {
	all := []byte(everyByte())
	checkAll(t, nil, all, 2)
	checkAll(t, []byte{2, 1}, all, 2)
	checkAll(t, []byte{2, 1, 2}, all, 2)
	checkAll(t, []byte{3, 1, 2, 'a', 1}, all, 2)
	checkAll(t, []byte{3, 1, 2, 'a', 1, 2}, all, 2)
	checkAll(t, nil, []byte{0, 1, 2, 3, 4, 'a'}, 6)
	if taken := checkAll(t, []byte{3, 1}, []byte{1, 2, 3, 4, 'a', 'b'}, 7); taken < 1000 {
		t.Errorf("%d were taken", taken)
	}
}

// P1: arguments may be large and stay as they were, results are new memory, and no state is kept.

func TestManyTermsBuilt(t *testing.T) {
	r := source()
	var l []string
	for range 30000 {
		l = append(l, strconv.Itoa(r.Intn(1<<30)), "user="+strconv.Itoa(r.Intn(1<<20)))
	}
	terms := sorted(l)
	a := handBuild(terms)
	checkBuild(t, terms, a, api.OK)
	checkTerms(t, r, a, terms)
	b := raw(a)
	checkPut(t, nil, a, b, api.OK)
	checkTake(t, b, a, len(b), api.OK)
}

// Any number of bytes may stand ahead of an automaton, or behind it.
func TestManyBytes(t *testing.T) {
	many := bytes.Repeat([]byte{2, 1, 2, 'a'}, 1<<20)
	a, b := []api.State{final(), plain(to('a', 0))}, []byte{2, 1, 2, 'a', 1}
	checkTake(t, slices.Concat(b, many), a, len(b), api.OK)
	checkTake(t, many[1:], nil, 0, api.ErrForm)
	checkPut(t, many, a, slices.Concat(many, b), api.OK)
	text := string(many)
	checkText(t, a, []string{"a"}, text)
	checkBuild(t, []string{text}, nil, api.ErrArg)
}

// withSpare returns the list in the middle of more memory, and all of that memory.
func withSpare[T any](list []T, mark T) (arg, all []T) {
	marks := slices.Repeat([]T{mark}, 20)
	all = slices.Concat(marks, list, marks)
	return all[len(marks) : len(marks)+len(list)], all
}

// overwrite replaces all elements, those of the spare capacity too.
func overwrite[T any](list []T, x T) {
	list = list[:cap(list)]
	for i := range list {
		list[i] = x
	}
}

// memory is that of an automaton, which lies in more of it.
type memory struct {
	a    []api.State
	all  []api.State
	arcs [][]api.Arc
}

// lay copies an automaton to where more stands around its states and arcs.
func lay(a []api.State) memory {
	var m memory
	var states []api.State
	for _, s := range a {
		arcs, all := withSpare(s.Arcs, to('!', 7))
		states = append(states, api.State{Final: s.Final, Arcs: arcs})
		m.arcs = append(m.arcs, all)
	}
	m.a, m.all = withSpare(states, final(to('?', 5)))
	return m
}

func (m memory) clone() memory {
	c := memory{all: slices.Clone(m.all)}
	for _, arcs := range m.arcs {
		c.arcs = append(c.arcs, slices.Clone(arcs))
	}
	return c
}

func (m memory) equal(c memory) bool {
	return equal(m.all, c.all) && slices.EqualFunc(m.arcs, c.arcs, slices.Equal)
}

func TestArgumentsStay(t *testing.T) {
	r := source()
	for _, a := range append(automata(r), unfit()...) {
		m := lay(a)
		b, allB := withSpare(someBytes(r, r.Intn(30)), 0x5a)
		before, beforeB := m.clone(), slices.Clone(allB)
		dict.Fit(m.a)
		dict.Count(m.a)
		dict.Term(m.a, 0)
		dict.Find(m.a, "ab")
		dict.Prefix(m.a, "a")
		dict.Put(b, m.a)
		dict.Put(b[:0], m.a)
		dict.Put(b, m.a[:len(m.a)/2])
		if !m.equal(before) || !bytes.Equal(allB, beforeB) {
			t.Errorf("%s: the memory of an argument was changed", show(a))
		}
		encoding, all := withSpare(raw(a), 0x5a)
		beforeB = slices.Clone(all)
		dict.Take(encoding)
		dict.Take(encoding[:len(encoding)/2])
		if !bytes.Equal(all, beforeB) {
			t.Errorf("%.60x: the memory of the argument was changed", encoding)
		}
	}
	for _, terms := range termLists(r) {
		arg, all := withSpare(terms, "spare")
		before := slices.Clone(all)
		dict.Build(arg)
		dict.Build(append(arg[:len(arg):len(arg)], ""))
		if !slices.Equal(all, before) {
			t.Errorf("%.80q: the memory of the argument was changed", terms)
		}
	}
}

// What stands in the spare capacity, and ahead of the argument, is no part of it.
func TestSpareCapacityIsNotRead(t *testing.T) {
	r := source()
	for _, a := range automata(r) {
		m := lay(a)
		if want := handTerms(a); !dict.Fit(m.a) || dict.Count(m.a) != len(want) {
			t.Errorf("Fit(%s) = %t, Count = %d", show(a), dict.Fit(m.a), dict.Count(m.a))
		}
		checkPut(t, nil, m.a, raw(a), api.OK)
		b, _ := withSpare(raw(a), 1)
		checkTake(t, b, a, len(b), api.OK)
		checkTake(t, b[:r.Intn(len(b))], nil, 0, api.ErrForm)
	}
	for _, terms := range termLists(r) {
		arg, _ := withSpare(terms, "")
		checkBuild(t, arg, handBuild(terms), api.OK)
	}
	checkPut(t, []byte{9, 8, 7}[:1], []api.State{final()}, []byte{9, 1, 1}, api.OK)
}

// checkNoSharing asks that the arcs of a have memory of their own, and that neither they nor the states are those of other; they are spoilt.
func checkNoSharing(t *testing.T, a, other []api.State) {
	t.Helper()
	var whole, wholeOther []api.State
	for i := range a {
		whole = append(whole, api.State{Final: a[i].Final, Arcs: slices.Clone(a[i].Arcs)})
	}
	for i := range other {
		wholeOther = append(wholeOther, api.State{Final: other[i].Final, Arcs: slices.Clone(other[i].Arcs)})
	}
	for i := range a {
		overwrite(a[i].Arcs, to('!', 1<<40))
		if !equal(a[i+1:], whole[i+1:]) {
			t.Errorf("the arcs of state %d share memory with others", i)
		}
		copy(a[i].Arcs, whole[i].Arcs)
		if !equal(a, whole) {
			t.Errorf("the arcs of state %d share memory with others", i)
			return
		}
	}
	for i := range a {
		overwrite(a[i].Arcs, to('!', 1<<40))
	}
	overwrite(a, plain(to('?', 9)))
	if !equal(other, wholeOther) {
		t.Errorf("%s shares memory", show(other))
	}
}

func TestResultsAreNewMemory(t *testing.T) {
	r := source()
	for _, terms := range termLists(r) {
		if len(terms) > 100 {
			continue
		}
		one, _ := dict.Build(terms)
		two, _ := dict.Build(terms)
		checkNoSharing(t, one, two)
		b := raw(two)
		three, _, _ := dict.Take(b)
		four, _, _ := dict.Take(b)
		checkNoSharing(t, three, four)
		overwrite(b, 0x33)
		if !equal(four, two) {
			t.Errorf("%s: a changed argument changed the result", show(two))
		}
		ahead, all := withSpare([]byte{1, 2, 3}, 0x5a)
		before := slices.Clone(all)
		five, _ := dict.Put(ahead, two)
		six, _ := dict.Put(ahead, two)
		want := slices.Clone(six)
		overwrite(five, 0x22)
		if !bytes.Equal(all, before) || !bytes.Equal(six, want) {
			t.Errorf("Put(%s): the result shares memory", show(two))
		}
		overwrite(all, 0x33)
		if !bytes.Equal(six, want) {
			t.Errorf("Put(%s): a changed argument changed the result", show(two))
		}
	}
}

func TestNoStateIsKept(t *testing.T) {
	a := []api.State{final(), plain(to('b', 0)), plain(to('a', 1), to('c', 1))}
	b := []byte("\x03\x01\x02b\x01\x04a\x01c\x01")
	for range 3 {
		checkBuild(t, []string{"ab", "cb"}, a, api.OK)
		checkBuild(t, []string{"b", "a"}, nil, api.ErrArg)
		checkBuild(t, nil, []api.State{plain()}, api.OK)
		checkText(t, a, []string{"ab", "cb"}, "cb")
		checkText(t, []api.State{plain()}, nil, "cb")
		checkTerm(t, a, 1, "cb", api.OK)
		checkUnfit(t, a[1:])
		checkPut(t, []byte{9}, a, append([]byte{9}, b...), api.OK)
		checkTake(t, b[1:], nil, 0, api.ErrForm)
		checkTake(t, b, a, len(b), api.OK)
	}
}
