package rowset_test

import (
	"math"
	"math/big"
	"math/rand"
	"slices"
	"testing"

	"dragnet/api"
	"dragnet/rowset"
)

// The helpers below follow the chapter's definitions by other means than the package does: a set is a great number whose bit i is 1 if row i is in it.

const ones = uint64(math.MaxUint64)

// handSet is a number with the bits of the rows.
func handSet(rows ...int) *big.Int {
	set := new(big.Int)
	for _, row := range rows {
		set.SetBit(set, row, 1)
	}
	return set
}

// handBits is the number that the words are, the least significant one first.
func handBits(words []uint64) *big.Int {
	number := new(big.Int)
	for _, word := range slices.Backward(words) {
		number.Lsh(number, 64)
		number.Or(number, new(big.Int).SetUint64(word))
	}
	return number
}

// handWords cuts the number into as few words as hold n bits.
func handWords(n int, set *big.Int) []uint64 {
	var words []uint64
	for from := 0; from < n; from += 64 {
		word := new(big.Int).Rsh(set, uint(from))
		words = append(words, word.And(word, new(big.Int).SetUint64(ones)).Uint64())
	}
	return words
}

func handFormed(s api.Rows) bool {
	if s.N < 0 || s.N > 4096 || handBits(s.Words).BitLen() > s.N {
		return false
	}
	return 64*len(s.Words) >= s.N && 64*(len(s.Words)-1) < s.N
}

// handRows asks for each row by itself.
func handRows(n int, set *big.Int) []int {
	var rows []int
	for i := range n {
		if set.Bit(i) == 1 {
			rows = append(rows, i)
		}
	}
	return rows
}

// handGranules asks for the rows of each granule by themselves.
func handGranules(n int, set *big.Int) []int {
	var granules []int
	for g := 0; 16*g < n; g++ {
		for i := 16 * g; i <= 16*g+15; i++ {
			if i < n && set.Bit(i) == 1 {
				granules = append(granules, g)
				break
			}
		}
	}
	return granules
}

// rowsOf is the set of n rows that the number is.
func rowsOf(n int, set *big.Int) api.Rows {
	return api.Rows{N: n, Words: handWords(n, set)}
}

// made is a set of n rows with the given ones.
func made(n int, rows ...int) api.Rows {
	return rowsOf(n, handSet(rows...))
}

// upTo returns the numbers from 0 to n - 1.
func upTo(n int) []int {
	return span(0, n)
}

// span returns the numbers from from to to - 1.
func span(from, to int) []int {
	var list []int
	for i := from; i < to; i++ {
		list = append(list, i)
	}
	return list
}

func source() *rand.Rand {
	return rand.New(rand.NewSource(1))
}

// someSet returns a number of at most n bits: few of them, half of them, or nearly all.
func someSet(r *rand.Rand, n int) *big.Int {
	set := new(big.Int)
	part := []int{0, 1, 2, 16, 50, 84, 99, 100}[r.Intn(8)]
	for i := range n {
		if r.Intn(100) < part {
			set.SetBit(set, i, 1)
		}
	}
	return set
}

// shuffled returns the list in another order, some of it twice.
func shuffled(r *rand.Rand, list []int) []int {
	list = slices.Clone(list)
	for range len(list) / 3 {
		list = append(list, list[r.Intn(len(list))])
	}
	r.Shuffle(len(list), func(i, j int) { list[i], list[j] = list[j], list[i] })
	return list
}

// edgeSizes are the numbers of rows at which words, granules and the greatest set begin or end.
func edgeSizes() []int {
	return []int{0, 1, 2, 15, 16, 17, 31, 32, 33, 47, 48, 49, 63, 64, 65, 70, 79, 80, 81, 127, 128, 129, 1000, 4031, 4032, 4033, 4079, 4080, 4081, 4095, 4096}
}

// wrongSizes are numbers of rows that no set has; with some of them, the words or the granules that they need are wrapped round.
func wrongSizes() []int {
	return []int{
		-1, 4097, -2, 4098, -15, -16, -17, -63, -64, -65, -4096, 4111, 4112, 4160, 8192,
		1 << 31, 1 << 32, 1<<32 + 5, -1 << 31, -1 << 32, 1 << 62, -1 << 62,
		math.MinInt, math.MinInt + 1, math.MinInt + 64, math.MaxInt, math.MaxInt - 1, math.MaxInt - 14, math.MaxInt - 15, math.MaxInt - 62, math.MaxInt - 63, math.MaxInt - 64,
	}
}

// wrongRows are numbers that are no row of n.
func wrongRows(n int) []int {
	return []int{
		-1, n, -2, n + 1, -n - 1, -63, -64, -65, n + 63, n + 64, n + 1000, 4096, 4097, -4096,
		1 << 31, 1 << 32, -1 << 31, -1 << 32, 1 << 62, -1 << 62,
		math.MinInt, math.MinInt + 1, math.MinInt + 64, math.MaxInt, math.MaxInt - 1, math.MaxInt - 63,
	}
}

// wrongGranules are numbers of no granule of n rows; some of them are wrapped round to one if they are multiplied by 16.
func wrongGranules(n int) []int {
	behind := 0
	for 16*behind < n {
		behind++
	}
	return []int{
		-1, behind, -2, behind + 1, -behind - 1, 256, 257, 4096, -16,
		1 << 31, 1 << 32, -1 << 31, -1 << 32, 1 << 59, 1 << 60, 1<<60 + 1, 1 << 61, 1<<61 + 1, -1 << 59, -1 << 60, -1<<60 + 1, 1 << 62, -1 << 62, -1<<62 + 1,
		math.MinInt, math.MinInt + 1, math.MaxInt, math.MaxInt - 1,
	}
}

// unformed returns sets that are not formed.
func unformed() []api.Rows {
	list := []api.Rows{
		{N: 0, Words: []uint64{0}}, {N: 0, Words: []uint64{1}}, {N: 0, Words: []uint64{0, 0}},
		{N: 5}, {N: 5, Words: []uint64{}}, {N: 5, Words: []uint64{1 << 5}}, {N: 5, Words: []uint64{1<<5 | 3}}, {N: 5, Words: []uint64{1 << 63}},
		{N: 5, Words: []uint64{1<<64 - 1}}, {N: 5, Words: []uint64{3, 0}}, {N: 5, Words: []uint64{0, 3}},
		{N: 64}, {N: 64, Words: []uint64{1, 0}}, {N: 64, Words: []uint64{1, 1}},
		{N: 65, Words: []uint64{1}}, {N: 65, Words: []uint64{1, 2}}, {N: 65, Words: []uint64{1, 3}}, {N: 65, Words: []uint64{1, 1, 0}},
		{N: 4096}, {N: 4096, Words: make([]uint64, 63)}, {N: 4096, Words: make([]uint64, 65)},
		{N: 4097, Words: make([]uint64, 65)}, {N: 4097, Words: append(make([]uint64, 64), 1)},
	}
	for _, n := range wrongSizes() {
		for _, count := range []int{0, 1, 2, 64, 65} {
			list = append(list, api.Rows{N: n, Words: make([]uint64, count)}, api.Rows{N: n, Words: slices.Repeat([]uint64{1}, count)})
		}
	}
	return list
}

// formed returns sets of many sizes.
func formed(r *rand.Rand) []api.Rows {
	list := []api.Rows{{}, {Words: []uint64{}}}
	for _, n := range edgeSizes() {
		list = append(list, made(n), made(n, upTo(n)...))
		if n > 0 {
			list = append(list, made(n, 0), made(n, n-1), made(n, 0, n-1), made(n, n/2))
		}
		for range 8 {
			list = append(list, rowsOf(n, someSet(r, n)))
		}
	}
	return list
}

func same(a, b api.Rows) bool {
	return a.N == b.N && slices.Equal(a.Words, b.Words)
}

func deepRows(s api.Rows) api.Rows {
	return api.Rows{N: s.N, Words: slices.Clone(s.Words)}
}

// checkSet holds a result against the set of n rows that the number is, or against an error.
func checkSet(t *testing.T, name string, got api.Rows, gotE api.Errno, want api.Rows, e api.Errno) {
	t.Helper()
	if !same(got, want) || gotE != e {
		t.Errorf("%s = %d rows, words %.20x of %d, error %d; want %d rows, words %.20x of %d, error %d",
			name, got.N, got.Words, len(got.Words), gotE, want.N, want.Words, len(want.Words), e)
	}
	if !handFormed(got) || !rowset.Formed(got) {
		t.Errorf("%s is not formed", name)
	}
}

func checkFull(t *testing.T, n int, want api.Rows, e api.Errno) {
	t.Helper()
	got, gotE := rowset.Full(n)
	checkSet(t, "Full", got, gotE, want, e)
}

func checkOf(t *testing.T, n int, rows []int, want api.Rows, e api.Errno) {
	t.Helper()
	got, gotE := rowset.Of(n, rows...)
	checkSet(t, "Of", got, gotE, want, e)
}

func checkWithin(t *testing.T, n int, granules []int, want api.Rows, e api.Errno) {
	t.Helper()
	got, gotE := rowset.Within(n, granules...)
	checkSet(t, "Within", got, gotE, want, e)
}

func checkFormed(t *testing.T, s api.Rows, want bool) {
	t.Helper()
	if got := rowset.Formed(s); got != want {
		t.Errorf("Formed(%d rows, words %.20x of %d) = %v, want %v", s.N, s.Words, len(s.Words), got, want)
	}
}

func checkHas(t *testing.T, s api.Rows, i int, want bool) {
	t.Helper()
	if got := rowset.Has(s, i); got != want {
		t.Errorf("Has(%d rows, words %.20x of %d, %d) = %v, want %v", s.N, s.Words, len(s.Words), i, got, want)
	}
}

// checkContent holds all that can be asked of a set against its rows and granules.
func checkContent(t *testing.T, s api.Rows, rows, granules []int) {
	t.Helper()
	name := func() string { return handBits(s.Words).Text(16) }
	if got := rowset.Count(s); got != len(rows) {
		t.Errorf("Count(%d rows, %s) = %d, want %d", s.N, name(), got, len(rows))
	}
	if got := slices.Collect(rowset.All(s)); !slices.Equal(got, rows) {
		t.Errorf("All(%d rows, %s) yields %d, want %d", s.N, name(), got, rows)
	}
	if got := rowset.Granules(s); !slices.Equal(got, granules) {
		t.Errorf("Granules(%d rows, %s) = %d, want %d", s.N, name(), got, granules)
	}
	for i := -70; i < len(s.Words)*64+70; i++ {
		_, has := slices.BinarySearch(rows, i)
		checkHas(t, s, i, has)
	}
	for _, i := range wrongRows(s.N) {
		_, has := slices.BinarySearch(rows, i)
		checkHas(t, s, i, has)
	}
}

// checkPair holds the three operations on two sets against those on numbers.
func checkPair(t *testing.T, n int, a, b *big.Int) {
	t.Helper()
	x, y := rowsOf(n, a), rowsOf(n, b)
	and, e := rowset.And(x, y)
	checkSet(t, "And", and, e, rowsOf(n, new(big.Int).And(a, b)), api.OK)
	or, e := rowset.Or(x, y)
	checkSet(t, "Or", or, e, rowsOf(n, new(big.Int).Or(a, b)), api.OK)
	minus, e := rowset.Minus(x, y)
	checkSet(t, "Minus", minus, e, rowsOf(n, new(big.Int).AndNot(a, b)), api.OK)
}

// checkRefused asks that none of the three operations takes the two sets, in either order.
func checkRefused(t *testing.T, a, b api.Rows) {
	t.Helper()
	for range 2 {
		got, e := rowset.And(a, b)
		checkSet(t, "And", got, e, api.Rows{}, api.ErrArg)
		got, e = rowset.Or(a, b)
		checkSet(t, "Or", got, e, api.Rows{}, api.ErrArg)
		got, e = rowset.Minus(a, b)
		checkSet(t, "Minus", got, e, api.Rows{}, api.ErrArg)
		a, b = b, a
	}
}

// P9.1: the chapter's examples.

func TestExamples(t *testing.T) {
	s := api.Rows{N: 70, Words: []uint64{1, 0x20}}
	checkOf(t, 70, []int{0, 69}, s, api.OK)
	checkContent(t, s, []int{0, 69}, []int{0, 4})
	w := api.Rows{N: 20, Words: []uint64{0xf0000}}
	checkWithin(t, 20, []int{1}, w, api.OK)
	checkContent(t, w, []int{16, 17, 18, 19}, []int{1})
}

// P9.1: Formed.

func TestFormedOfEachSize(t *testing.T) {
	for n := range 4097 {
		words := handWords(n, handSet())
		checkFormed(t, api.Rows{N: n, Words: words}, true)
		checkFormed(t, api.Rows{N: n, Words: append(words[:len(words):len(words)], 0)}, false)
		checkFormed(t, api.Rows{N: n, Words: append(words[:len(words):len(words)], 1)}, false)
		checkFormed(t, made(n, upTo(n)...), true)
		if n > 0 {
			checkFormed(t, api.Rows{N: n, Words: words[1:]}, false)
			checkFormed(t, api.Rows{N: n}, false)
			checkFormed(t, made(n, n-1), true)
		}
		for i := n; i < 64*len(words); i++ {
			checkFormed(t, made(n, i), false)
		}
		if n%64 != 0 {
			checkFormed(t, made(n, upTo(n+1)...), false)
			checkFormed(t, made(n, span(n, 64*len(words))...), false)
			checkFormed(t, made(n, upTo(64*len(words))...), false)
		}
	}
}

func TestFormedOfKnownSets(t *testing.T) {
	checkFormed(t, api.Rows{}, true)
	checkFormed(t, api.Rows{Words: []uint64{}}, true)
	checkFormed(t, api.Rows{Words: []uint64{1}[:0]}, true)
	checkFormed(t, api.Rows{N: 1, Words: []uint64{0}}, true)
	checkFormed(t, api.Rows{N: 1, Words: []uint64{1}}, true)
	checkFormed(t, api.Rows{N: 1, Words: []uint64{2}}, false)
	checkFormed(t, api.Rows{N: 63, Words: []uint64{ones >> 1}}, true)
	checkFormed(t, api.Rows{N: 63, Words: []uint64{1 << 63}}, false)
	checkFormed(t, api.Rows{N: 64, Words: []uint64{ones}}, true)
	checkFormed(t, api.Rows{N: 65, Words: []uint64{ones, 1}}, true)
	checkFormed(t, api.Rows{N: 65, Words: []uint64{ones, 2}}, false)
	checkFormed(t, api.Rows{N: 128, Words: []uint64{0, ones}}, true)
	checkFormed(t, api.Rows{N: 4096, Words: slices.Repeat([]uint64{ones}, 64)}, true)
	for _, s := range unformed() {
		checkFormed(t, s, false)
	}
	for _, s := range formed(source()) {
		checkFormed(t, s, true)
	}
}

func TestFormedOfAnySets(t *testing.T) {
	r := source()
	counts := map[bool]int{}
	for range 50000 {
		s := api.Rows{N: r.Intn(200) - 4, Words: make([]uint64, r.Intn(4))}
		for i := range s.Words {
			s.Words[i] = r.Uint64() >> r.Intn(65)
		}
		counts[handFormed(s)]++
		checkFormed(t, s, handFormed(s))
	}
	if counts[true] < 1000 || counts[false] < 1000 {
		t.Errorf("formed, or not: %v", counts)
	}
}

// P9.1: Full.

func TestFull(t *testing.T) {
	for n := range 4097 {
		checkFull(t, n, made(n, upTo(n)...), api.OK)
	}
	checkFull(t, 0, api.Rows{}, api.OK)
	checkFull(t, 1, api.Rows{N: 1, Words: []uint64{1}}, api.OK)
	checkFull(t, 63, api.Rows{N: 63, Words: []uint64{ones >> 1}}, api.OK)
	checkFull(t, 64, api.Rows{N: 64, Words: []uint64{ones}}, api.OK)
	checkFull(t, 65, api.Rows{N: 65, Words: []uint64{ones, 1}}, api.OK)
	checkFull(t, 4096, api.Rows{N: 4096, Words: slices.Repeat([]uint64{ones}, 64)}, api.OK)
	for _, n := range wrongSizes() {
		checkFull(t, n, api.Rows{}, api.ErrArg)
	}
}

// P9.1: Of.

func TestOfOneRow(t *testing.T) {
	for _, n := range edgeSizes() {
		for i := range n {
			checkOf(t, n, []int{i}, made(n, i), api.OK)
		}
		checkOf(t, n, nil, made(n), api.OK)
		checkOf(t, n, []int{}, made(n), api.OK)
	}
	if got, e := rowset.Of(70); e != api.OK || got.N != 70 || !slices.Equal(got.Words, []uint64{0, 0}) {
		t.Errorf("Of(70) = %v, error %d", got, e)
	}
}

func TestOfManyRows(t *testing.T) {
	r := source()
	for _, n := range edgeSizes() {
		for range 20 {
			set := someSet(r, n)
			rows := handRows(n, set)
			checkOf(t, n, rows, rowsOf(n, set), api.OK)
			checkOf(t, n, shuffled(r, rows), rowsOf(n, set), api.OK)
			checkOf(t, n, slices.Concat(rows, rows), rowsOf(n, set), api.OK)
			slices.Reverse(rows)
			checkOf(t, n, rows, rowsOf(n, set), api.OK)
		}
	}
	checkOf(t, 5, []int{3, 3}, api.Rows{N: 5, Words: []uint64{8}}, api.OK)
	checkOf(t, 5, []int{4, 0, 4, 3, 0}, api.Rows{N: 5, Words: []uint64{0x19}}, api.OK)
	checkOf(t, 200, []int{199, 63, 64, 0, 63, 128, 127}, api.Rows{N: 200, Words: []uint64{1<<63 | 1, 1<<63 | 1, 1, 1 << 7}}, api.OK)
}

func TestOfWrongRows(t *testing.T) {
	for _, n := range edgeSizes() {
		for _, wrong := range wrongRows(n) {
			if 0 <= wrong && wrong < n {
				continue // of other sizes it is none
			}
			rows := upTo(min(n, 70))
			checkOf(t, n, []int{wrong}, api.Rows{}, api.ErrArg)
			checkOf(t, n, []int{wrong, wrong}, api.Rows{}, api.ErrArg)
			for _, at := range []int{0, len(rows) / 2, len(rows)} {
				checkOf(t, n, slices.Insert(slices.Clone(rows), at, wrong), api.Rows{}, api.ErrArg)
			}
		}
	}
	for _, n := range wrongSizes() {
		checkOf(t, n, nil, api.Rows{}, api.ErrArg)
		checkOf(t, n, []int{0}, api.Rows{}, api.ErrArg)
		checkOf(t, n, []int{-1}, api.Rows{}, api.ErrArg)
		checkOf(t, n, []int{0, n - 1, n}, api.Rows{}, api.ErrArg)
	}
}

// P9.1: Within.

// rowsWithin lists the rows of the granules, out of n, as the chapter's definition says.
func rowsWithin(n int, granules []int) []int {
	var rows []int
	for _, g := range granules {
		for i := 16 * g; i <= 16*g+15; i++ {
			if i < n {
				rows = append(rows, i)
			}
		}
	}
	return rows
}

// granulesOf returns all granules of n rows.
func granulesOf(n int) []int {
	return handGranules(n, handSet(upTo(n)...))
}

func TestWithinOneGranule(t *testing.T) {
	sizes := append(upTo(200), edgeSizes()...)
	for _, n := range sizes {
		for _, g := range granulesOf(n) {
			want := made(n, rowsWithin(n, []int{g})...)
			checkWithin(t, n, []int{g}, want, api.OK)
			checkWithin(t, n, []int{g, g}, want, api.OK)
		}
		checkWithin(t, n, nil, made(n), api.OK)
		checkWithin(t, n, []int{}, made(n), api.OK)
		checkWithin(t, n, granulesOf(n), made(n, upTo(n)...), api.OK)
	}
	checkWithin(t, 1, []int{0}, api.Rows{N: 1, Words: []uint64{1}}, api.OK)
	checkWithin(t, 15, []int{0}, api.Rows{N: 15, Words: []uint64{0x7fff}}, api.OK)
	checkWithin(t, 16, []int{0}, api.Rows{N: 16, Words: []uint64{0xffff}}, api.OK)
	checkWithin(t, 17, []int{0}, api.Rows{N: 17, Words: []uint64{0xffff}}, api.OK)
	checkWithin(t, 17, []int{1}, api.Rows{N: 17, Words: []uint64{0x10000}}, api.OK)
	checkWithin(t, 64, []int{3}, api.Rows{N: 64, Words: []uint64{0xffff << 48}}, api.OK)
	checkWithin(t, 65, []int{4}, api.Rows{N: 65, Words: []uint64{0, 1}}, api.OK)
	checkWithin(t, 4095, []int{255}, made(4095, span(4080, 4095)...), api.OK)
	checkWithin(t, 4096, []int{255}, made(4096, span(4080, 4096)...), api.OK)
}

func TestWithinManyGranules(t *testing.T) {
	r := source()
	for _, n := range edgeSizes() {
		count := len(granulesOf(n))
		for range 20 {
			granules := handRows(count, someSet(r, count))
			want := made(n, rowsWithin(n, granules)...)
			checkWithin(t, n, granules, want, api.OK)
			checkWithin(t, n, shuffled(r, granules), want, api.OK)
			checkWithin(t, n, slices.Concat(granules, granules), want, api.OK)
		}
	}
	checkWithin(t, 70, []int{4, 0, 4}, api.Rows{N: 70, Words: []uint64{0xffff, 0x3f}}, api.OK)
}

func TestWithinWrongGranules(t *testing.T) {
	for _, n := range append(upTo(200), edgeSizes()...) {
		granules := granulesOf(n)
		for _, wrong := range wrongGranules(n) {
			if slices.Contains(granules, wrong) {
				continue // of other sizes it is none
			}
			checkWithin(t, n, []int{wrong}, api.Rows{}, api.ErrArg)
			checkWithin(t, n, []int{wrong, wrong}, api.Rows{}, api.ErrArg)
			for _, at := range []int{0, len(granules) / 2, len(granules)} {
				checkWithin(t, n, slices.Insert(slices.Clone(granules), at, wrong), api.Rows{}, api.ErrArg)
			}
		}
	}
	for _, n := range wrongSizes() {
		checkWithin(t, n, nil, api.Rows{}, api.ErrArg)
		checkWithin(t, n, []int{0}, api.Rows{}, api.ErrArg)
		checkWithin(t, n, []int{-1}, api.Rows{}, api.ErrArg)
		checkWithin(t, n, []int{0, 255, 256}, api.Rows{}, api.ErrArg)
	}
}

// P9.1: Has, Count, Granules and All.

func TestContentOfFormedSets(t *testing.T) {
	for _, s := range formed(source()) {
		set := handBits(s.Words)
		checkContent(t, s, handRows(s.N, set), handGranules(s.N, set))
	}
}

func TestContentOfSetsWithOneRow(t *testing.T) {
	for _, n := range []int{1, 15, 16, 17, 63, 64, 65, 128, 200} {
		for i := range n {
			checkContent(t, made(n, i), []int{i}, []int{i / 16})
		}
	}
	for i := range 4096 {
		s := made(4096, i)
		if l := slices.Collect(rowset.All(s)); !slices.Equal(l, []int{i}) || !rowset.Has(s, i) || rowset.Count(s) != 1 || !slices.Equal(rowset.Granules(s), []int{i / 16}) {
			t.Errorf("of row %d: %d", i, l)
		}
	}
}

func TestContentOfKnownSets(t *testing.T) {
	checkContent(t, api.Rows{}, nil, nil)
	checkContent(t, api.Rows{N: 1, Words: []uint64{0}}, nil, nil)
	checkContent(t, api.Rows{N: 1, Words: []uint64{1}}, []int{0}, []int{0})
	checkContent(t, made(17, 15, 16), []int{15, 16}, []int{0, 1})
	checkContent(t, made(65, 63, 64), []int{63, 64}, []int{3, 4})
	checkContent(t, made(4096, 0, 15, 4080, 4095), []int{0, 15, 4080, 4095}, []int{0, 255})
	checkContent(t, made(4095, upTo(4095)...), upTo(4095), upTo(256))
	checkContent(t, made(4096, upTo(4096)...), upTo(4096), upTo(256))
	checkContent(t, made(4080, upTo(4080)...), upTo(4080), upTo(255))
}

func TestContentOfUnformedSets(t *testing.T) {
	for _, s := range unformed() {
		checkContent(t, s, nil, nil)
	}
	for _, n := range edgeSizes() {
		all := made(n, upTo(n)...)
		checkContent(t, api.Rows{N: n, Words: append(all.Words, 0)}, nil, nil)
		checkContent(t, api.Rows{N: n, Words: append(all.Words, ones)}, nil, nil)
		if n > 0 {
			checkContent(t, api.Rows{N: n, Words: all.Words[1:]}, nil, nil)
			checkContent(t, api.Rows{N: n}, nil, nil)
		}
		if n%64 != 0 {
			checkContent(t, made(n, append(upTo(n), n)...), nil, nil)
			checkContent(t, made(n, 0, 64*len(all.Words)-1), nil, nil)
		}
	}
}

// P9.1: All, left early, at once, and never.

func TestLoopsThatAreLeft(t *testing.T) {
	for _, s := range formed(source()) {
		rows := handRows(s.N, handBits(s.Words))
		all := rowset.All(s)
		for _, most := range []int{0, 1, 2, len(rows) / 2, len(rows) - 1} {
			if most < 0 || most >= len(rows) {
				continue
			}
			var got []int
			for row := range all {
				got = append(got, row)
				if len(got) == most+1 {
					break
				}
			}
			if !slices.Equal(got, rows[:most+1]) {
				t.Errorf("a loop left after %d of %d rows yields %d", most+1, len(rows), got)
			}
		}
		if got := slices.Collect(all); !slices.Equal(got, rows) {
			t.Errorf("the loop behind those that were left yields %d, want %d", got, rows)
		}
	}
}

// A loop that was left asks for nothing more, in the same word or in another one.
func TestNothingIsYieldedBehindTheEnd(t *testing.T) {
	s := made(200, 0, 1, 63, 64, 128, 199)
	for most := 1; most <= 6; most++ {
		calls := 0
		rowset.All(s)(func(int) bool {
			calls++
			return calls < most
		})
		if calls != most {
			t.Errorf("%d rows were yielded to a loop that took %d", calls, most)
		}
	}
}

func TestLoopsWithinLoops(t *testing.T) {
	s := made(200, 0, 1, 63, 64, 128, 199)
	rows := []int{0, 1, 63, 64, 128, 199}
	all := rowset.All(s)
	var outer []int
	for row := range all {
		outer = append(outer, row)
		var inner []int
		for other := range all {
			if other > row {
				break
			}
			inner = append(inner, other)
		}
		if !slices.Equal(inner, rows[:len(outer)]) {
			t.Errorf("the loop within that of row %d yields %d", row, inner)
		}
	}
	if !slices.Equal(outer, rows) {
		t.Errorf("a loop with loops within yields %d", outer)
	}
}

func TestALoopThatPanics(t *testing.T) {
	s := made(200, 0, 64, 199)
	all := rowset.All(s)
	func() {
		defer func() { recover() }()
		for range all {
			panic("left")
		}
	}()
	if got := slices.Collect(all); !slices.Equal(got, []int{0, 64, 199}) {
		t.Errorf("behind a panic the loop yields %d", got)
	}
}

// P9.1: And, Or and Minus.

func TestPairsOfAllSmallSets(t *testing.T) {
	for n := range 6 {
		for a := range int64(1) << n {
			for b := range int64(1) << n {
				checkPair(t, n, big.NewInt(a), big.NewInt(b))
			}
		}
	}
	for _, n := range []int{64, 65, 66, 4096} { // bits at the end of a set
		for a := range int64(8) {
			for b := range int64(8) {
				checkPair(t, n, new(big.Int).Lsh(big.NewInt(a), uint(n-3)), new(big.Int).Lsh(big.NewInt(b), uint(n-3)))
			}
		}
	}
}

func TestPairsOfAnySets(t *testing.T) {
	r := source()
	for _, n := range edgeSizes() {
		none, all := handSet(), handSet(upTo(n)...)
		for range 40 {
			a, b := someSet(r, n), someSet(r, n)
			checkPair(t, n, a, b)
			checkPair(t, n, b, a)
			for _, other := range []*big.Int{a, none, all, new(big.Int).AndNot(all, a)} {
				checkPair(t, n, a, other)
				checkPair(t, n, other, a)
			}
		}
		checkPair(t, n, none, none)
		checkPair(t, n, all, all)
		checkPair(t, n, none, all)
	}
}

// of returns the set, if there is no error.
func of(t *testing.T, s api.Rows, e api.Errno) api.Rows {
	t.Helper()
	if e != api.OK {
		t.Errorf("error %d", e)
	}
	return s
}

func TestASetWithItself(t *testing.T) {
	for _, s := range formed(source()) {
		got, e := rowset.And(s, s)
		checkSet(t, "And", got, e, s, api.OK)
		got, e = rowset.Or(s, s)
		checkSet(t, "Or", got, e, s, api.OK)
		got, e = rowset.Minus(s, s)
		checkSet(t, "Minus", got, e, made(s.N), api.OK)
	}
}

func TestASetWithNoneAndWithAll(t *testing.T) {
	for _, s := range formed(source()) {
		none, e := rowset.Of(s.N)
		none = of(t, none, e)
		all, e := rowset.Full(s.N)
		all = of(t, all, e)
		got, e := rowset.And(s, none)
		checkSet(t, "And", got, e, none, api.OK)
		got, e = rowset.Or(s, none)
		checkSet(t, "Or", got, e, s, api.OK)
		got, e = rowset.Minus(s, none)
		checkSet(t, "Minus", got, e, s, api.OK)
		got, e = rowset.Minus(none, s)
		checkSet(t, "Minus", got, e, none, api.OK)
		got, e = rowset.And(all, s)
		checkSet(t, "And", got, e, s, api.OK)
		got, e = rowset.Or(s, all)
		checkSet(t, "Or", got, e, all, api.OK)
		got, e = rowset.Minus(s, all)
		checkSet(t, "Minus", got, e, none, api.OK)
		got, e = rowset.Minus(all, s)
		rest := new(big.Int).AndNot(handBits(all.Words), handBits(s.Words))
		checkSet(t, "Minus", got, e, rowsOf(s.N, rest), api.OK)
	}
}

func TestPairsOfOtherSizes(t *testing.T) {
	sizes := append(upTo(70), edgeSizes()...)
	for _, n := range sizes {
		for _, other := range sizes {
			if n != other {
				checkRefused(t, made(n), made(other))
				checkRefused(t, made(n, upTo(n)...), made(other, upTo(other)...))
			}
		}
	}
}

func TestPairsWithUnformedSets(t *testing.T) {
	for _, s := range unformed() {
		checkRefused(t, s, s)
		checkRefused(t, s, api.Rows{N: s.N, Words: slices.Clone(s.Words)})
		checkRefused(t, s, api.Rows{})
		for _, n := range []int{1, 5, 64, 65, 4096} {
			checkRefused(t, s, made(n, 0))
		}
		for _, other := range unformed() {
			checkRefused(t, s, other)
		}
		if 0 <= s.N && s.N <= 4096 { // the same N, in a set that is formed
			checkRefused(t, s, made(s.N))
			checkRefused(t, s, made(s.N, upTo(s.N)...))
		}
	}
}

// P9.2: set algebra.

func checkAlgebra(t *testing.T, a, b api.Rows) {
	t.Helper()
	minus, e := rowset.Minus(a, b)
	minus = of(t, minus, e)
	and, e := rowset.And(a, b)
	and = of(t, and, e)
	union, e := rowset.Or(minus, and)
	checkSet(t, "Or of Minus and And", union, e, a, api.OK)
	union, e = rowset.Or(and, minus)
	checkSet(t, "Or of And and Minus", union, e, a, api.OK)
	apart, e := rowset.And(minus, b)
	checkSet(t, "And of Minus and the set taken away", apart, e, made(a.N), api.OK)
	turned, e := rowset.And(b, a)
	checkSet(t, "And, turned", turned, e, and, api.OK)
	or, e := rowset.Or(a, b)
	or = of(t, or, e)
	turned, e = rowset.Or(b, a)
	checkSet(t, "Or, turned", turned, e, or, api.OK)
	if rowset.Count(or) != rowset.Count(a)+rowset.Count(b)-rowset.Count(and) || rowset.Count(minus) != rowset.Count(a)-rowset.Count(and) {
		t.Errorf("counts of %d and %d rows: or %d, and %d, minus %d", rowset.Count(a), rowset.Count(b), rowset.Count(or), rowset.Count(and), rowset.Count(minus))
	}
}

func TestSetAlgebra(t *testing.T) {
	r := source()
	for _, n := range edgeSizes() {
		for range 40 {
			checkAlgebra(t, rowsOf(n, someSet(r, n)), rowsOf(n, someSet(r, n)))
		}
		s := rowsOf(n, someSet(r, n))
		checkAlgebra(t, s, s)
		checkAlgebra(t, s, made(n))
		checkAlgebra(t, made(n), s)
		checkAlgebra(t, s, made(n, upTo(n)...))
		checkAlgebra(t, made(n, upTo(n)...), s)
	}
	for n := range 6 {
		for a := range int64(1) << n {
			for b := range int64(1) << n {
				checkAlgebra(t, rowsOf(n, big.NewInt(a)), rowsOf(n, big.NewInt(b)))
			}
		}
	}
}

// What one function returns another one takes.
func TestFunctionsAgree(t *testing.T) {
	for _, s := range formed(source()) {
		rows := slices.Collect(rowset.All(s))
		got, e := rowset.Of(s.N, rows...)
		checkSet(t, "Of All", got, e, s, api.OK)
		around, e := rowset.Within(s.N, rowset.Granules(s)...)
		around = of(t, around, e)
		got, e = rowset.And(s, around)
		checkSet(t, "And of Within", got, e, s, api.OK)
		if !slices.Equal(rowset.Granules(around), rowset.Granules(s)) {
			t.Errorf("Granules of Within: %d, want %d", rowset.Granules(around), rowset.Granules(s))
		}
	}
}

// Any number of rows and granules can be passed.
func TestManyArguments(t *testing.T) {
	const times = 1 << 10
	checkOf(t, 4096, slices.Repeat(upTo(4096), times), made(4096, upTo(4096)...), api.OK)
	checkOf(t, 4096, append(slices.Repeat(upTo(4096), times), 4096), api.Rows{}, api.ErrArg)
	checkOf(t, 4096, append(slices.Repeat([]int{7}, 1<<22), -1), api.Rows{}, api.ErrArg)
	checkWithin(t, 4095, slices.Repeat(upTo(256), times), made(4095, upTo(4095)...), api.OK)
	checkWithin(t, 4095, append(slices.Repeat(upTo(256), times), 256), api.Rows{}, api.ErrArg)
}

// Sets that are not formed may have any number of words.
func TestManyWords(t *testing.T) {
	words := slices.Repeat([]uint64{1}, 1<<22)
	for _, n := range []int{-1, 0, 1, 64, 4096, 4097, 64 << 22, 64<<22 - 63, math.MinInt, math.MaxInt} {
		s := api.Rows{N: n, Words: words}
		checkFormed(t, s, false)
		checkHas(t, s, 0, false)
		checkHas(t, s, 64, false)
		if rowset.Count(s) != 0 || len(rowset.Granules(s)) != 0 || len(slices.Collect(rowset.All(s))) != 0 {
			t.Errorf("%d rows in %d words have a content", n, len(words))
		}
		checkRefused(t, s, s)
		checkRefused(t, s, made(64, 0))
	}
}

// P1: arguments stay as they were, results are new memory, and no state is kept.

// withSpare returns the list in the middle of more memory, and all of that memory.
func withSpare[T any](list []T, mark T) (arg, all []T) {
	marks := slices.Repeat([]T{mark}, 100)
	all = slices.Concat(marks, list, marks)
	return all[len(marks) : len(marks)+len(list)], all
}

// useAll calls each function that takes sets.
func useAll(a, b api.Rows) {
	rowset.Formed(a)
	rowset.Has(a, 0)
	rowset.Has(a, a.N-1)
	rowset.Has(a, a.N)
	rowset.Count(a)
	rowset.Granules(a)
	for range rowset.All(a) {
	}
	for range rowset.All(a) {
		break
	}
	rowset.And(a, b)
	rowset.Or(a, b)
	rowset.Minus(a, b)
}

func TestArgumentsStay(t *testing.T) {
	r := source()
	for _, s := range append(formed(r), unformed()...) {
		for _, mark := range []uint64{0, 5, ones} {
			a, allA := withSpare(s.Words, mark)
			b, allB := withSpare(slices.Repeat([]uint64{3}, len(s.Words)), mark)
			beforeA, beforeB := slices.Clone(allA), slices.Clone(allB)
			x, y := api.Rows{N: s.N, Words: a}, api.Rows{N: s.N, Words: b}
			useAll(x, y)
			useAll(y, x)
			useAll(x, x)
			if !slices.Equal(allA, beforeA) || !slices.Equal(allB, beforeB) {
				t.Errorf("%d rows in %d words: the memory of an argument was changed", s.N, len(s.Words))
			}
		}
	}
	for _, list := range [][]int{nil, {0}, {3, 1, 3, 0}, {1, 1, -1, 2}, {9, 0, 70}, upTo(100)} {
		for _, n := range []int{-1, 0, 1, 5, 70, 4096, 4097} {
			arg, all := withSpare(list, 2)
			before := slices.Clone(all)
			rowset.Of(n, arg...)
			rowset.Within(n, arg...)
			if !slices.Equal(all, before) {
				t.Errorf("Of or Within(%d, %d): the memory of an argument was changed", n, list)
			}
		}
	}
}

// What stands in the spare capacity, and ahead of the argument, is no part of it.
func TestSpareCapacityIsNotRead(t *testing.T) {
	for _, s := range formed(source()) {
		words, _ := withSpare(s.Words, ones)
		set := handBits(s.Words)
		checkFormed(t, api.Rows{N: s.N, Words: words}, true)
		checkContent(t, api.Rows{N: s.N, Words: words}, handRows(s.N, set), handGranules(s.N, set))
		got, e := rowset.Or(api.Rows{N: s.N, Words: words}, made(s.N))
		checkSet(t, "Or", got, e, s, api.OK)
		checkFormed(t, api.Rows{N: 64 * (len(words) + 1), Words: words}, false)
		if len(words) > 0 {
			checkFormed(t, api.Rows{N: s.N, Words: words[:len(words)-1]}, false)
		}
	}
	rows, _ := withSpare([]int{1, 2}, 9)
	checkOf(t, 10, rows, made(10, 1, 2), api.OK)
	checkOf(t, 10, rows[:1], made(10, 1), api.OK)
	checkOf(t, 10, rows[:0], made(10), api.OK)
	granules, _ := withSpare([]int{1}, 0)
	checkWithin(t, 40, granules, made(40, span(16, 32)...), api.OK)
	checkWithin(t, 40, granules[:0], made(40), api.OK)
}

// overwrite replaces all elements of a list, those of its spare capacity too.
func overwrite[T any](list []T, x T) {
	list = list[:cap(list)]
	for i := range list {
		list[i] = x
	}
}

// results calls the functions that return sets.
func results(t *testing.T, a, b api.Rows) []api.Rows {
	t.Helper()
	full, e := rowset.Full(a.N)
	list := []api.Rows{of(t, full, e)}
	for range 2 {
		for _, call := range []func(a, b api.Rows) (api.Rows, api.Errno){rowset.And, rowset.Or, rowset.Minus} {
			s, e := call(a, b)
			list = append(list, of(t, s, e))
		}
		s, e := rowset.Of(a.N)
		list = append(list, of(t, s, e))
		s, e = rowset.Within(a.N)
		list = append(list, of(t, s, e))
		full, e := rowset.Full(a.N)
		list = append(list, of(t, full, e))
	}
	return list
}

// checkShares overwrites each result, and asks whether another one, or an argument, changes by that.
func checkShares(t *testing.T, a, b api.Rows, list []api.Rows) {
	t.Helper()
	beforeA, beforeB := deepRows(a), deepRows(b)
	for i := range list {
		var before []api.Rows
		for _, s := range list {
			before = append(before, deepRows(s))
		}
		overwrite(list[i].Words, 0x5a5a)
		for k := range list {
			if k != i && !same(list[k], before[k]) {
				t.Errorf("results %d and %d of %d rows share memory", i, k, a.N)
			}
		}
		if !same(a, beforeA) || !same(b, beforeB) {
			t.Errorf("result %d of %d rows shares memory with an argument", i, a.N)
		}
	}
}

func TestResultsAreNewMemory(t *testing.T) {
	r := source()
	for _, n := range edgeSizes() {
		a, b := rowsOf(n, someSet(r, n)), rowsOf(n, someSet(r, n))
		checkShares(t, a, b, results(t, a, b))
		checkShares(t, a, a, results(t, a, a))
		checkShares(t, a, made(n), results(t, a, made(n)))
		all := made(n, upTo(n)...)
		checkShares(t, a, all, results(t, a, all))
		list := results(t, a, b)
		var before []api.Rows
		for _, s := range list {
			before = append(before, deepRows(s))
		}
		overwrite(a.Words, 0x5a5a)
		overwrite(b.Words, 0x5a5a)
		for i, s := range list {
			if !same(s, before[i]) {
				t.Errorf("a changed argument changed result %d of %d rows", i, n)
			}
		}
	}
}

func TestGranulesAreNewMemory(t *testing.T) {
	s := made(200, 0, 64, 199)
	one, two := rowset.Granules(s), rowset.Granules(s)
	overwrite(one, -1)
	if want := []int{0, 4, 12}; !slices.Equal(two, want) || !slices.Equal(rowset.Granules(s), want) {
		t.Errorf("Granules share memory: %d", two)
	}
	checkSet(t, "the argument", s, api.OK, made(200, 0, 64, 199), api.OK)
}

// All yields what its argument had, not what stands there when the loop runs.
func TestAllRetainsNothing(t *testing.T) {
	s := made(200, 0, 64, 199)
	all := rowset.All(s)
	overwrite(s.Words, 0)
	if got := slices.Collect(all); !slices.Equal(got, []int{0, 64, 199}) {
		t.Errorf("behind a change of its argument, All yields %d", got)
	}
	bad := api.Rows{N: 5, Words: []uint64{1<<5 | 1}}
	none := rowset.All(bad)
	bad.Words[0] = 1
	if got := slices.Collect(none); len(got) > 0 {
		t.Errorf("All of a set that was not formed yields %d", got)
	}
	good := made(200, 0, 64, 199)
	all = rowset.All(good)
	var got []int
	for row := range all {
		got = append(got, row)
		overwrite(good.Words, ones)
	}
	if !slices.Equal(got, []int{0, 64, 199}) {
		t.Errorf("with a change of its argument within the loop, All yields %d", got)
	}
}

func TestNoStateIsKept(t *testing.T) {
	one, two := made(70, 0, 69), made(70, 5)
	first, second := rowset.All(one), rowset.All(two)
	for range 3 {
		checkOf(t, 70, []int{0, 69}, one, api.OK)
		checkOf(t, 70, []int{70}, api.Rows{}, api.ErrArg)
		checkOf(t, 70, []int{5}, two, api.OK)
		checkOf(t, 70, nil, made(70), api.OK)
		checkWithin(t, 70, []int{4}, made(70, span(64, 70)...), api.OK)
		checkWithin(t, 70, []int{5}, api.Rows{}, api.ErrArg)
		checkWithin(t, 70, nil, made(70), api.OK)
		checkFull(t, 70, made(70, upTo(70)...), api.OK)
		checkFull(t, -1, api.Rows{}, api.ErrArg)
		checkPair(t, 70, handSet(0, 69), handSet(5))
		checkContent(t, one, []int{0, 69}, []int{0, 4})
		checkContent(t, two, []int{5}, []int{0})
		if !slices.Equal(slices.Collect(first), []int{0, 69}) || !slices.Equal(slices.Collect(second), []int{5}) {
			t.Error("loops over two sets are not their own")
		}
	}
}
