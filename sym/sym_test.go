package sym_test

import (
	"bytes"
	"math"
	"math/rand"
	"slices"
	"sort"
	"strings"
	"testing"

	"dragnet/api"
	"dragnet/sym"
)

// The helpers below follow the chapter's definitions by other means than the package does.

// handFormed reports whether t is a table.
func handFormed(t []string) bool {
	kinds := map[string]int{}
	for _, s := range t {
		if n := len(s); 2 <= n && n <= 8 {
			kinds[s]++
		}
	}
	return len(kinds) == len(t) && len(t) < 33
}

// cutSamples returns the samples up to the limit, taken byte by byte.
func cutSamples(samples [][]byte) []string {
	var list []string
	total := 0
	for _, sample := range samples {
		var s []byte
		for _, x := range sample {
			if total == 1024 {
				break
			}
			s = append(s, x)
			total++
		}
		list = append(list, string(s))
	}
	return list
}

// occurrences returns at how many positions of the samples the piece occurs.
func occurrences(samples []string, piece string) int {
	n := 0
	for _, s := range samples {
		for i := strings.Index(s, piece); i >= 0; i = strings.Index(s, piece) {
			n++
			s = s[i+1:]
		}
	}
	return n
}

// handTrain looks for the best candidate again and again.
func handTrain(samples [][]byte) []string {
	cut := cutSamples(samples)
	values := map[string]int{}
	for _, s := range cut {
		for n := 2; n <= 8; n++ {
			for end := n; end <= len(s); end++ {
				piece := s[end-n : end]
				if _, known := values[piece]; known {
					continue
				}
				values[piece] = 0
				if c := occurrences(cut, piece); c >= 2 {
					values[piece] = (n - 1) * c
				}
			}
		}
	}
	var table []string
	for len(table) < 32 {
		best := ""
		for piece, v := range values {
			if v > 0 && (best == "" || v > values[best] || v == values[best] && piece < best) {
				best = piece
			}
		}
		if best == "" {
			break
		}
		table = append(table, best)
		delete(values, best)
	}
	return table
}

// handEncode tries the symbols from the longest on.
func handEncode(table []string, b []byte) []byte {
	order := make([]int, len(table))
	for k := range order {
		order[k] = k
	}
	sort.Slice(order, func(i, j int) bool { return len(table[order[i]]) > len(table[order[j]]) })
	out := []byte{}
	for at := 0; at < len(b); {
		k := slices.IndexFunc(order, func(k int) bool { return bytes.HasPrefix(b[at:], []byte(table[k])) })
		if k < 0 {
			out = append(out, 255, b[at])
			at++
			continue
		}
		out = append(out, byte(order[k]))
		at += len(table[order[k]])
	}
	return out
}

// handDecode reads byte by byte; escaped is set between a 255 and the byte behind it.
func handDecode(table []string, b []byte, most int) ([]byte, api.Errno) {
	if !handFormed(table) || most < 0 {
		return nil, api.ErrArg
	}
	out, escaped := []byte{}, false
	for _, x := range b {
		if escaped {
			out, escaped = append(out, x), false
		} else if x == 255 {
			escaped = true
		} else if int(x) < len(table) {
			out = append(out, table[x]...)
		} else {
			return nil, api.ErrForm
		}
		if len(out) > most {
			return nil, api.ErrLong
		}
	}
	if escaped {
		return nil, api.ErrForm
	}
	return out, api.OK
}

// rawTable lays a number of symbols and the symbols one behind the other, right or wrong.
func rawTable(n byte, symbols ...string) []byte {
	b := []byte{n}
	for _, s := range symbols {
		b = append(append(b, byte(len(s))), s...)
	}
	return b
}

// handTake reads the table that b begins with. All the numbers of a table are single bytes.
func handTake(b []byte) (table []string, size int, e api.Errno) {
	if len(b) == 0 || b[0] > 32 {
		return nil, 0, api.ErrForm
	}
	size = 1
	for range int(b[0]) {
		if size >= len(b) || b[size] < 2 || b[size] > 8 || len(b)-size-1 < int(b[size]) {
			return nil, 0, api.ErrForm
		}
		end := size + 1 + int(b[size])
		table = append(table, string(b[size+1:end]))
		size = end
	}
	if !handFormed(table) {
		return nil, 0, api.ErrForm
	}
	return table, size, api.OK
}

// tables and bytes of many kinds

func source() *rand.Rand {
	return rand.New(rand.NewSource(1))
}

func someBytes(r *rand.Rand, n int) []byte {
	b := make([]byte, n)
	r.Read(b)
	return b
}

// someText returns n bytes of few kinds, of which some repeat.
func someText(r *rand.Rand, n int) []byte {
	kinds := 1 + r.Intn(6)
	if r.Intn(4) == 0 {
		kinds = 256
	}
	var b []byte
	for len(b) < n {
		if len(b) == 0 || r.Intn(3) > 0 {
			b = append(b, byte(255-r.Intn(kinds)))
			continue
		}
		at := r.Intn(len(b))
		b = append(b, b[at:at+r.Intn(min(12, len(b)-at)+1)]...)
	}
	return b[:n:n]
}

// distinct returns n bytes, all below 250, of which no two neighbours stand twice.
func distinct(n int) []byte {
	var b []byte
	for x := 0; len(b) < n; x++ {
		b = append(b, byte(x))
		for y := x + 1; y < 250; y++ {
			b = append(b, byte(x), byte(y))
		}
	}
	return b[:n:n]
}

// manySymbols returns n symbols of 2 to 8 bytes, all of them other ones, in a mixed order.
func manySymbols(n int) []string {
	var list []string
	for i := range n {
		list = append(list, strings.Repeat(string(rune('a'+i*7%26)), 1+i%7)+string(rune('A'+i/26)))
	}
	return list
}

// someTable returns a table whose symbols often begin with one another.
func someTable(r *rand.Rand) []string {
	kinds := 1 + r.Intn(3)
	var table []string
	for range r.Intn(60) {
		s := string(someText(r, 2+r.Intn(7)))
		if r.Intn(2) == 0 {
			s = ""
			for range 2 + r.Intn(7) {
				s += string(rune('a' + r.Intn(kinds)))
			}
		}
		if len(table) < 32 && !slices.Contains(table, s) {
			table = append(table, s)
		}
	}
	return table
}

// textOf returns bytes that the symbols of the table, and pieces of them, make up.
func textOf(r *rand.Rand, table []string) []byte {
	var b []byte
	for range r.Intn(40) {
		switch {
		case len(table) == 0 || r.Intn(5) == 0:
			b = append(b, someText(r, r.Intn(4))...)
		case r.Intn(3) == 0:
			s := table[r.Intn(len(table))]
			b = append(b, s[:r.Intn(len(s))]...)
		default:
			b = append(b, table[r.Intn(len(table))]...)
		}
	}
	return b
}

// knownTables are tables at the edges of what a table may be.
func knownTables() [][]string {
	return [][]string{
		nil,
		{},
		{"ab"},
		{"12345678"},
		{"ab", "abc"},
		{"abc", "ab"},
		{"ab", "abc", "abcd", "abcde", "abcdef", "abcdefg", "abcdefgh"},
		{"abcdefgh", "abcdefg", "abcdef", "abcde", "abcd", "abc", "ab"},
		{"ab", "ba", "AB", "a\x00", "\x00a", "\x00\x00", "\xff\xff", "\xff\x00\x01"},
		{"aa", "aaa", "aaaaaaaa"},
		manySymbols(31),
		manySymbols(32),
	}
}

// wrongTables are lists that are no tables, each for one reason.
func wrongTables() [][]string {
	return [][]string{
		{""},
		{"a"},
		{"123456789"},
		{strings.Repeat("x", 1000)},
		{"ab", "ab"},
		{"ab", "abc", "ab"},
		{"12345678", "ab", "12345678"},
		{"ab", ""},
		{"ab", "c"},
		{"ab", "cd", "123456789"},
		{"a", "ab"},
		make([]string, 33),
		manySymbols(33),
		manySymbols(100),
		append(manySymbols(31), "x"),
		append(manySymbols(31), "123456789"),
		append(manySymbols(31), manySymbols(1)...),
	}
}

func checkFormed(t *testing.T, table []string, want bool) {
	t.Helper()
	if sym.Formed(table) != want {
		t.Errorf("Formed(%.400q) = %t; want %t", table, !want, want)
	}
}

func checkTrain(t *testing.T, want []string, samples ...[]byte) {
	t.Helper()
	got := sym.Train(samples)
	if !slices.Equal(got, want) {
		t.Errorf("Train(%.100q) = %q; want %q", samples, got, want)
	}
	checkFormed(t, got, true)
}

// checkAnyTrain holds Train against the definition.
func checkAnyTrain(t *testing.T, samples ...[]byte) {
	t.Helper()
	checkTrain(t, handTrain(samples), samples...)
}

func checkEncode(t *testing.T, table []string, b, want []byte) {
	t.Helper()
	if got, e := sym.Encode(table, b); !bytes.Equal(got, want) || e != api.OK {
		t.Errorf("Encode(%q, %.60x of %d bytes) = %.60x, error %d; want %.60x", table, b, len(b), got, e, want)
	}
}

func checkDecode(t *testing.T, table []string, b []byte, most int, want []byte, e api.Errno) {
	t.Helper()
	got, gotE := sym.Decode(table, b, most)
	if !bytes.Equal(got, want) || gotE != e {
		t.Errorf("Decode(%.400q, %.60x of %d bytes, %d) = %.60x, error %d; want %.60x, error %d", table, b, len(b), most, got, gotE, want, e)
	}
}

// checkAnyDecode holds Decode against the definition.
func checkAnyDecode(t *testing.T, table []string, b []byte, most int) api.Errno {
	t.Helper()
	want, e := handDecode(table, b, most)
	checkDecode(t, table, b, most, want, e)
	return e
}

// checkBounds decodes b, which stands for want, with bounds of all kinds.
func checkBounds(t *testing.T, table []string, b, want []byte) {
	t.Helper()
	n := len(want)
	for _, most := range []int{n, n + 1, n + 1000, math.MaxInt} {
		checkDecode(t, table, b, most, want, api.OK)
	}
	for _, most := range []int{0, 1, n / 2, n - 9, n - 8, n - 2, n - 1} {
		if most >= 0 && most < n {
			checkDecode(t, table, b, most, nil, api.ErrLong)
		}
	}
	for _, most := range []int{-1, -2, -n - 1, math.MinInt} {
		checkDecode(t, table, b, most, nil, api.ErrArg)
	}
}

func checkPutTable(t *testing.T, b []byte, table []string, want []byte) {
	t.Helper()
	if got, e := sym.PutTable(b, table); !bytes.Equal(got, want) || e != api.OK {
		t.Errorf("PutTable(%x, %q) = %x, error %d; want %x", b, table, got, e, want)
	}
}

func checkTakeTable(t *testing.T, b []byte, want []string, size int, e api.Errno) {
	t.Helper()
	got, gotSize, gotE := sym.TakeTable(b)
	if !slices.Equal(got, want) || gotSize != size || gotE != e {
		t.Errorf("TakeTable(%x) = %q, %d, error %d; want %q, %d, error %d", b, got, gotSize, gotE, want, size, e)
	}
}

// checkAnyTakeTable holds TakeTable against the definition.
func checkAnyTakeTable(t *testing.T, b []byte) api.Errno {
	t.Helper()
	table, size, e := handTake(b)
	checkTakeTable(t, b, table, size, e)
	return e
}

// P6.1: Formed.

func TestFormedOfKnownLists(t *testing.T) {
	for _, table := range knownTables() {
		checkFormed(t, table, true)
	}
	for _, list := range wrongTables() {
		checkFormed(t, list, false)
	}
}

func TestFormedByLengthsOfSymbols(t *testing.T) {
	for n := range 300 {
		s := strings.Repeat("x", n)
		checkFormed(t, []string{s}, n >= 2 && n <= 8)
		checkFormed(t, []string{"ab", s, "cd"}, n >= 2 && n <= 8)
	}
}

func TestFormedByNumberOfSymbols(t *testing.T) {
	for n := range 300 {
		checkFormed(t, manySymbols(n), n <= 32)
	}
}

// A symbol that occurs twice is found wherever the two stand.
func TestFormedWithASymbolTwice(t *testing.T) {
	table := manySymbols(32)
	for i := range table {
		for j := range table {
			list := slices.Clone(table)
			list[j] = list[i]
			checkFormed(t, list, i == j)
		}
	}
}

func TestFormedOfAnyLists(t *testing.T) {
	r := source()
	var seen [2]int
	for range 20000 {
		var list []string
		for range r.Intn(1 << r.Intn(7)) {
			list = append(list, string(someBytes(r, 1+r.Intn(8)))+"x")
		}
		if len(list) > 1 && r.Intn(3) == 0 {
			list[r.Intn(len(list))] = list[r.Intn(len(list))]
		}
		if len(list) > 0 && r.Intn(3) == 0 {
			list[r.Intn(len(list))] = string(someBytes(r, r.Intn(11)))
		}
		want := handFormed(list)
		checkFormed(t, list, want)
		if want {
			seen[1]++
		} else {
			seen[0]++
		}
	}
	if seen[0] < 1000 || seen[1] < 1000 {
		t.Errorf("%d lists were no tables, %d were", seen[0], seen[1])
	}
}

// P6.1: Train.

func asSamples(list ...string) [][]byte {
	var samples [][]byte
	for _, s := range list {
		samples = append(samples, []byte(s))
	}
	return samples
}

func TestKnownTrains(t *testing.T) {
	cases := []struct {
		samples []string
		want    []string
	}{
		{nil, nil},
		{[]string{""}, nil},
		{[]string{"", "", ""}, nil},
		{[]string{"a"}, nil},
		{[]string{"a", "a", "a"}, nil},
		{[]string{"abab", "ab"}, []string{"ab"}},
		{[]string{"ab"}, nil},
		{[]string{"ab", "ab"}, []string{"ab"}},
		{[]string{"", "ab", "", "ab", ""}, []string{"ab"}},
		{[]string{"ab", "ba"}, nil},
		{[]string{"ab", "AB"}, nil},
		{[]string{"abc", "abc"}, []string{"abc", "ab", "bc"}},
		// Pieces that overlap themselves.
		{[]string{"aa"}, nil},
		{[]string{"aaa"}, []string{"aa"}},
		{[]string{"aaaa"}, []string{"aaa", "aa"}},
		{[]string{"aaaaa"}, []string{"aaa", "aaaa", "aa"}},
		{[]string{"ababa"}, []string{"aba", "ab", "ba"}},
		// Pieces across two samples, which are none.
		{[]string{"a", "b", "a", "b"}, nil},
		{[]string{"aa", "aa"}, []string{"aa"}},
		{[]string{"xa", "bxa", "b"}, []string{"xa"}},
		{[]string{"ab", "cab", "c"}, []string{"ab"}},
		{[]string{"aa", "a"}, nil},
		// The greater value ahead, whichever is longer or more frequent.
		{[]string{"ab", "ab", "xyz", "xyz"}, []string{"xyz", "ab", "xy", "yz"}},
		{[]string{"ab", "ab", "ab", "xy", "xy"}, []string{"ab", "xy"}},
		{[]string{"ab", "ab", "ab", "ab", "xyz", "xyz"}, []string{"ab", "xyz", "xy", "yz"}},
		{[]string{"ab", "ab", "ab", "ab", "ab", "xyz", "xyz"}, []string{"ab", "xyz", "xy", "yz"}},
		{[]string{"zz", "zz", "zz", "zz", "xyq", "xyq"}, []string{"xyq", "zz", "xy", "yq"}},
		// Candidates with the same value, byte-wise.
		{[]string{"zy", "ab", "ab", "zy"}, []string{"ab", "zy"}},
		{[]string{"\xff\x01", "\xff\x01", "\x01\xff", "\x01\xff", "\x80a", "\x80a", "\x7fa", "\x7fa", "a\x80", "a\x80", "a\x7f", "a\x7f", "\x00\x00", "\x00\x00"},
			[]string{"\x00\x00", "\x01\xff", "a\x7f", "a\x80", "\x7fa", "\x80a", "\xff\x01"}},
		{[]string{"ab", "ab", "AB", "AB", "Ab", "Ab"}, []string{"AB", "Ab", "ab"}},
		{[]string{"\xc3\xa4", "\xc3\xa4", "\xc3\x28", "\xc3\x28"}, []string{"\xc3\x28", "\xc3\xa4"}},
	}
	for _, c := range cases {
		checkTrain(t, c.want, asSamples(c.samples...)...)
		checkAnyTrain(t, asSamples(c.samples...)...)
	}
	checkTrain(t, nil)
	checkTrain(t, nil, nil)
	checkTrain(t, nil, nil, []byte{}, nil)
}

// Of a string that stands twice, every piece of 2 to 8 bytes is a candidate, and no longer one.
func TestTrainByLengthsOfPieces(t *testing.T) {
	for n := range 9 {
		s := "12345678"[:n]
		var want []string
		for k := n; k >= 2; k-- {
			for i := 0; i+k <= n; i++ {
				want = append(want, s[i:i+k])
			}
		}
		checkTrain(t, want, asSamples(s, s)...)
	}
	table := sym.Train(asSamples("123456789", "123456789"))
	if want := []string{"12345678", "23456789", "1234567", "2345678", "3456789"}; len(table) != 32 || !slices.Equal(table[:5], want) {
		t.Errorf("nine bytes twice lead to %q", table)
	}
}

// Eight bytes that stand twice have the value 14; two bytes have the value of their count.
func TestTrainByValues(t *testing.T) {
	for count := 1; count <= 30; count++ {
		for _, pair := range []string{"AA", "zy"} {
			samples := asSamples("abcdefgh", "abcdefgh")
			for range count {
				samples = append(samples, []byte(pair))
			}
			table := sym.Train(samples)
			place := slices.Index(table, pair)
			if first := count > 14 || count == 14 && pair == "AA"; count == 1 && place >= 0 || first != (place == 0) {
				t.Errorf("%d times %s lead to %q", count, pair, table)
			}
			checkAnyTrain(t, samples...)
		}
	}
}

// If there are more than 32 candidates, those with the greatest values are taken, or the first ones among equals.
func TestTrainByNumberOfCandidates(t *testing.T) {
	for n := range 60 {
		var samples [][]byte
		var want []string
		for i := range n {
			pair := string([]byte{byte(200 - i), byte(i)})
			samples = append(samples, []byte(pair), []byte(pair))
			want = append([]string{pair}, want...)
		}
		checkTrain(t, want[:min(n, 32)], samples...)
		if n >= 32 { // one that stands three times is taken, though all the others precede it byte-wise
			best := asSamples("\xff\xff", "\xff\xff", "\xff\xff")
			checkTrain(t, append([]string{"\xff\xff"}, want[:31]...), append(samples, best...)...)
		}
	}
}

// divided returns b in samples that end at the given places.
func divided(b []byte, ends ...int) [][]byte {
	var samples [][]byte
	start := 0
	for _, end := range append(ends, len(b)) {
		samples = append(samples, b[start:end])
		start = end
	}
	return samples
}

// Two bytes at the beginning stand once more at the end of the samples, and count if they end within the limit.
func TestTrainLimit(t *testing.T) {
	pair := []byte{250, 251}
	for n := 1020; n <= 1030; n++ {
		b := slices.Concat(pair, distinct(n-4), pair)
		var want []string
		if n <= 1024 {
			want = []string{string(pair)}
		}
		checkTrain(t, want, b)
		checkTrain(t, want, nil, b)
		checkTrain(t, want, b, nil)
		checkTrain(t, want, divided(b, 500)...)
		checkTrain(t, want, divided(b, 2, n-2)...)
		checkTrain(t, want, divided(b, 2, 2, 100, 101, 102, 1000, n-2, n-2)...)
		checkTrain(t, want, divided(b, n-3)...)
		checkTrain(t, nil, divided(b, n-1)...)
		checkTrain(t, want, append(divided(b, n-2), pair)...) // the end and then more of it
	}
	checkTrain(t, nil, distinct(1024), pair, pair)
	checkTrain(t, nil, distinct(1023), pair, pair)
	checkTrain(t, nil, distinct(1022), pair, pair)
	checkTrain(t, nil, distinct(1021), pair, pair)
	checkTrain(t, []string{string(pair)}, distinct(1020), pair, pair)
	checkTrain(t, nil, distinct(1024))
	checkTrain(t, nil, distinct(1025))
	checkTrain(t, nil, distinct(5000))
}

// The sample in which the limit is reached is truncated, and not left out; what follows it does not count.
func TestTrainTruncates(t *testing.T) {
	x := []byte{250}
	for ahead := 1000; ahead <= 1030; ahead++ {
		rest := max(1024-ahead, 0)
		for _, samples := range [][][]byte{
			{distinct(ahead), bytes.Repeat(x, 100)},
			{distinct(ahead), bytes.Repeat(x, rest), bytes.Repeat(x, 100)},
			{distinct(ahead), bytes.Repeat(x, rest+1), bytes.Repeat(x, 100), nil},
		} {
			var want []string
			for n := 2; n <= 8 && n < rest; n++ {
				want = append(want, strings.Repeat(string(x), n))
			}
			value := func(s string) int { return (len(s) - 1) * (rest - len(s) + 1) }
			sort.SliceStable(want, func(i, j int) bool { return value(want[i]) > value(want[j]) })
			checkTrain(t, want, samples...)
		}
	}
	checkTrain(t, []string{"aaaaaaaa", "aaaaaaa", "aaaaaa", "aaaaa", "aaaa", "aaa", "aa"}, bytes.Repeat([]byte("a"), 1024))
	for n := range 1100 { // with many single bytes, no sample has a piece
		samples := make([][]byte, n)
		for i := range samples {
			samples[i] = []byte("a")
		}
		samples = append(samples, []byte("aaa"))
		var want []string
		if n <= 1021 {
			want = []string{"aa"}
		}
		checkTrain(t, want, samples...)
	}
}

// Each count around the limit: the last one is lost with the last byte.
func TestTrainCountsUpToTheLimit(t *testing.T) {
	for n := 1010; n <= 1040; n++ {
		checkAnyTrain(t, bytes.Repeat([]byte("0123456789"), 200)[:n])
		checkAnyTrain(t, divided(bytes.Repeat([]byte("abcabd"), 200)[:n], 7, 300, 301, 900)...)
	}
}

func TestTrainOfAnySamples(t *testing.T) {
	r := source()
	var seen [33]int
	for range 300 {
		var samples [][]byte
		for range r.Intn(1 << r.Intn(6)) {
			samples = append(samples, someText(r, r.Intn(1<<r.Intn(8))))
		}
		checkAnyTrain(t, samples...)
		seen[len(sym.Train(samples))]++
	}
	for range 10 {
		checkAnyTrain(t, someText(r, 700), someText(r, 400), someText(r, 100))
		checkAnyTrain(t, someBytes(r, 1500))
	}
	if seen[0] == 0 || seen[32] < 10 || seen[0]+seen[32] == 300 {
		t.Errorf("the numbers of symbols were %v", seen)
	}
}

// Candidates with the same value must not stand as a map has them.
func TestTrainIsTheSameEachTime(t *testing.T) {
	var samples [][]byte
	for i := range 100 {
		samples = append(samples, []byte{byte(i), byte(200 - i)}, []byte{byte(i), byte(200 - i)})
	}
	want := handTrain(samples)
	for range 200 {
		checkTrain(t, want, samples...)
	}
}

func TestTrainOfGreatSamples(t *testing.T) {
	checkTrain(t, []string{"ab"}, append(make([][]byte, 1<<20), asSamples("ab", "ab")...)...)
	checkTrain(t, nil, append(distinct(1022), bytes.Repeat([]byte{251}, 1<<24)...))
	checkTrain(t, []string{"\xfb\xfb"}, append(distinct(1021), bytes.Repeat([]byte{251}, 1<<24)...))
}

// P6.1: Encode and Decode.

func TestKnownCodes(t *testing.T) {
	chain := []string{"ab", "abc", "abcd", "abcde", "abcdef", "abcdefg", "abcdefgh"}
	odd := []string{"\x00\x01", "\xff\xff", "\xff\x00", "a\xff"}
	cases := []struct {
		table []string
		b     string
		want  []byte
	}{
		{nil, "", nil},
		{nil, "a", []byte{255, 'a'}},
		{nil, "ab", []byte{255, 'a', 255, 'b'}},
		{nil, "\x00\xff", []byte{255, 0, 255, 255}},
		{[]string{"ab", "abc"}, "", nil},
		{[]string{"ab", "abc"}, "abcab", []byte{1, 0}},
		{[]string{"ab", "abc"}, "xab", []byte{255, 'x', 0}},
		{[]string{"ab", "abc"}, "a", []byte{255, 'a'}},
		{[]string{"ab", "abc"}, "b", []byte{255, 'b'}},
		{[]string{"ab", "abc"}, "aab", []byte{255, 'a', 0}},
		{[]string{"ab", "abc"}, "aba", []byte{0, 255, 'a'}},
		{[]string{"ab", "abc"}, "ababc", []byte{0, 1}},
		{[]string{"ab", "abc"}, "abcc", []byte{1, 255, 'c'}},
		{[]string{"abc", "ab"}, "abcab", []byte{0, 1}},
		{chain, "abcdefgh", []byte{6}},
		{chain, "abcdefg", []byte{5}},
		{chain, "abcdefgab", []byte{5, 0}},
		{chain, "abcdefghi", []byte{6, 255, 'i'}},
		{chain, "abcabcdab", []byte{1, 2, 0}},
		{chain, "abcdx", []byte{2, 255, 'x'}},
		// The longest symbol is taken, even if fewer codes would do.
		{[]string{"abc", "ab", "cdefghij"}, "abcdefghij", []byte{0, 255, 'd', 255, 'e', 255, 'f', 255, 'g', 255, 'h', 255, 'i', 255, 'j'}},
		{[]string{"aab", "aa", "ba", "ab"}, "aaba", []byte{0, 255, 'a'}},
		{[]string{"aa", "aaa"}, "aaaa", []byte{1, 255, 'a'}},
		{[]string{"aa", "aaa"}, "aaaaa", []byte{1, 0}},
		// A longer symbol that does not fit any more.
		{[]string{"ab", "abcdefgh"}, "abcdefg", []byte{0, 255, 'c', 255, 'd', 255, 'e', 255, 'f', 255, 'g'}},
		{[]string{"12345678"}, "1234567", []byte{255, '1', 255, '2', 255, '3', 255, '4', 255, '5', 255, '6', 255, '7'}},
		{[]string{"12345678"}, "12345678", []byte{0}},
		// Bytes that look like codes.
		{odd, "\x00\x01\xff\xff\xff\x00", []byte{0, 1, 2}},
		{odd, "\xff\xff\xff", []byte{1, 255, 255}},
		{odd, "\x00\x00\x01", []byte{255, 0, 0}},
		{odd, "\x01\x02\xfe", []byte{255, 1, 255, 2, 255, 254}},
		{odd, "a\xff\xff", []byte{3, 255, 255}},
	}
	for _, c := range cases {
		checkEncode(t, c.table, []byte(c.b), c.want)
		checkBounds(t, c.table, c.want, []byte(c.b))
	}
	checkEncode(t, []string{"ab"}, nil, nil)
	checkDecode(t, []string{"ab"}, nil, 0, nil, api.OK)
	checkDecode(t, nil, nil, 0, nil, api.OK)
}

// Every byte by itself, and every pair of bytes, with and without a symbol.
func TestEncodeOfAllShortStrings(t *testing.T) {
	for x := range 256 {
		for _, table := range knownTables() {
			checkEncode(t, table, []byte{byte(x)}, []byte{255, byte(x)})
			checkDecode(t, table, []byte{255, byte(x)}, 1, []byte{byte(x)}, api.OK)
		}
		for y := range 256 {
			b := []byte{byte(x), byte(y)}
			checkEncode(t, []string{"xy", string(b) + "z"}, b, handEncode([]string{"xy"}, b))
			checkEncode(t, []string{string(b) + "z", string(b)}, b, []byte{1})
			checkEncode(t, nil, b, []byte{255, b[0], 255, b[1]})
		}
	}
}

func TestEncodeOfEachSymbol(t *testing.T) {
	for _, table := range append(knownTables(), sym.Train([][]byte{bytes.Repeat([]byte("0123456789"), 9)})) {
		for k, s := range table {
			checkEncode(t, table, []byte(s), []byte{byte(k)})
			checkBounds(t, table, []byte{byte(k)}, []byte(s))
			checkEncode(t, table, []byte("~"+s), []byte{255, '~', byte(k)})
			for i := 1; i < len(s); i++ {
				checkEncode(t, table, []byte(s[:i]), handEncode(table, []byte(s[:i])))
			}
		}
	}
}

func TestEncodeOfAnyBytes(t *testing.T) {
	r := source()
	for range 5000 {
		table := someTable(r)
		for _, b := range [][]byte{textOf(r, table), someText(r, r.Intn(60))} {
			checkEncode(t, table, b, handEncode(table, b))
		}
	}
}

func TestWrongTablesAreRefused(t *testing.T) {
	for _, table := range wrongTables() {
		for _, b := range [][]byte{nil, {0}, {255}, {250}, {255, 'a'}, []byte("abab")} {
			if got, e := sym.Encode(table, b); len(got) != 0 || e != api.ErrArg {
				t.Errorf("Encode(%.400q, %x) = %x, error %d", table, b, got, e)
			}
			if got, e := sym.PutTable(b, table); len(got) != 0 || e != api.ErrArg {
				t.Errorf("PutTable(%x, %.400q) = %x, error %d", b, table, got, e)
			}
			for _, most := range []int{math.MinInt, -1, 0, 1, 100, math.MaxInt} {
				checkDecode(t, table, b, most, nil, api.ErrArg)
			}
		}
	}
}

// Each code with each number of symbols.
func TestDecodeOfEachCode(t *testing.T) {
	for n := range 33 {
		table := manySymbols(n)
		for x := range 256 {
			b := []byte{byte(x)}
			if x < n {
				checkBounds(t, table, b, []byte(table[x]))
				checkDecode(t, table, []byte{255, 'a', b[0], b[0]}, 100, []byte("a"+table[x]+table[x]), api.OK)
				continue
			}
			for _, most := range []int{0, 1, 8, 100, math.MaxInt} {
				checkDecode(t, table, b, most, nil, api.ErrForm)
				checkDecode(t, table, b, -1, nil, api.ErrArg)
			}
			checkDecode(t, table, []byte{255, 'a', b[0]}, 100, nil, api.ErrForm)
		}
	}
}

// The error that occurs first is returned.
func TestOrderOfErrors(t *testing.T) {
	table := []string{"ab", "12345678"}
	cases := []struct {
		name string
		b    []byte
		most int
		e    api.Errno
	}{
		{"most ahead of a wrong code", []byte{2}, -1, api.ErrArg},
		{"most ahead of a 255 at the end", []byte{255}, math.MinInt, api.ErrArg},
		{"most ahead of too many bytes", []byte{0}, -1, api.ErrArg},
		{"most with no bytes", nil, -1, api.ErrArg},
		{"a wrong code", []byte{2}, 9, api.ErrForm},
		{"a wrong code just below 255", []byte{254}, 9, api.ErrForm},
		{"a wrong code without room", []byte{2}, 0, api.ErrForm},
		{"a 255 at the end", []byte{255}, 9, api.ErrForm},
		{"a 255 at the end without room", []byte{255}, 0, api.ErrForm},
		{"a symbol without room", []byte{0}, 0, api.ErrLong},
		{"a symbol with room for one byte", []byte{0}, 1, api.ErrLong},
		{"a symbol with room for seven bytes", []byte{1}, 7, api.ErrLong},
		{"a byte without room", []byte{255, 'a'}, 0, api.ErrLong},
		{"too many bytes ahead of a wrong code", []byte{0, 2}, 1, api.ErrLong},
		{"a wrong code behind bytes that fit", []byte{0, 2}, 2, api.ErrForm},
		{"a wrong code ahead of too many bytes", []byte{2, 0}, 0, api.ErrForm},
		{"too many bytes ahead of a 255 at the end", []byte{0, 255}, 1, api.ErrLong},
		{"a 255 at the end behind bytes that fit", []byte{0, 255}, 2, api.ErrForm},
		{"a byte too many ahead of a wrong code", []byte{255, 'a', 2}, 0, api.ErrLong},
		{"a wrong code behind a byte that fits", []byte{255, 'a', 2}, 1, api.ErrForm},
		{"a second byte too many ahead of a 255 at the end", []byte{255, 'a', 255, 'b', 255}, 1, api.ErrLong},
		{"a 255 behind two bytes that fit", []byte{255, 'a', 255, 'b', 255}, 2, api.ErrForm},
		{"a 255 behind itself, which is a byte", []byte{255, 255}, 0, api.ErrLong},
		{"a third 255, at the end", []byte{255, 255, 255}, 1, api.ErrForm},
		{"a third 255, behind a byte too many", []byte{255, 255, 255}, 0, api.ErrLong},
		{"too many bytes between wrong codes", []byte{0, 1, 2, 1}, 9, api.ErrLong},
		{"a wrong code between bytes", []byte{0, 1, 2, 1}, 10, api.ErrForm},
	}
	for _, c := range cases {
		if _, e := sym.Decode(table, c.b, c.most); e != c.e {
			t.Errorf("%s: Decode(%x, %d) answers the error %d; want %d", c.name, c.b, c.most, e, c.e)
		}
		checkDecode(t, table, c.b, c.most, nil, c.e)
		checkAnyDecode(t, table, c.b, c.most)
	}
}

// Every string of up to five bytes out of those that matter, with bounds of all sizes.
func TestDecodeOfAllShortStrings(t *testing.T) {
	tables := [][]string{nil, {"ab"}, {"ab", "12345678"}}
	all := [][]byte{{}}
	for range 6 {
		var longer [][]byte
		for _, b := range all {
			for _, most := range []int{-1, 0, 1, 2, 3, 7, 8, 9, 10, math.MaxInt} {
				for _, table := range tables {
					checkAnyDecode(t, table, b, most)
				}
			}
			for _, x := range []byte{0, 1, 2, 254, 255} {
				longer = append(longer, append(slices.Clone(b), x))
			}
		}
		all = longer
	}
}

func TestDecodeOfAnyBytes(t *testing.T) {
	r := source()
	var seen [15]int
	for range 30000 {
		table := someTable(r)
		b := someBytes(r, r.Intn(1<<r.Intn(7)))
		for i := range b {
			if r.Intn(30) > 0 {
				b[i] %= byte(max(len(table), 1))
			}
			if r.Intn(5) == 0 {
				b[i] = 255
			}
		}
		seen[checkAnyDecode(t, table, b, r.Intn(1<<r.Intn(12)))]++
	}
	if seen[api.OK] < 1000 || seen[api.ErrForm] < 1000 || seen[api.ErrLong] < 1000 {
		t.Errorf("%d results, %d times ErrForm, %d times ErrLong", seen[api.OK], seen[api.ErrForm], seen[api.ErrLong])
	}
}

// Codes that Encode would not produce stand for bytes, too.
func TestDecodeOfOtherCodes(t *testing.T) {
	table := []string{"ab", "abc", "cd"}
	checkDecode(t, table, []byte{255, 'a', 255, 'b'}, 2, []byte("ab"), api.OK)
	checkDecode(t, table, []byte{0, 255, 'c'}, 3, []byte("abc"), api.OK)
	checkDecode(t, table, []byte{0, 2}, 4, []byte("abcd"), api.OK)
}

// P6.1: PutTable and TakeTable.

func TestKnownEncodedTables(t *testing.T) {
	cases := []struct {
		table []string
		want  []byte
	}{
		{nil, []byte{0}},
		{[]string{}, []byte{0}},
		{[]string{"ab"}, []byte{1, 2, 'a', 'b'}},
		{[]string{"ab", "abc"}, []byte{2, 2, 'a', 'b', 3, 'a', 'b', 'c'}},
		{[]string{"abc", "ab"}, []byte{2, 3, 'a', 'b', 'c', 2, 'a', 'b'}},
		{[]string{"12345678"}, []byte{1, 8, '1', '2', '3', '4', '5', '6', '7', '8'}},
		{[]string{"\x00\x00", "\xff\xff"}, []byte{2, 2, 0, 0, 2, 255, 255}},
	}
	for _, c := range cases {
		checkPutTable(t, nil, c.table, c.want)
		checkPutTable(t, []byte{}, c.table, c.want)
		checkPutTable(t, []byte{9}, c.table, slices.Concat([]byte{9}, c.want))
		checkPutTable(t, []byte("abc"), c.table, slices.Concat([]byte("abc"), c.want))
		checkTakeTable(t, c.want, c.table, len(c.want), api.OK)
		checkTakeTable(t, append(slices.Clone(c.want), 7), c.table, len(c.want), api.OK)
	}
}

func TestPutTableFollowsTheDefinition(t *testing.T) {
	r := source()
	tables := knownTables()
	for n := range 33 {
		tables = append(tables, manySymbols(n))
	}
	for range 500 {
		tables = append(tables, someTable(r))
	}
	for _, table := range tables {
		for _, b := range [][]byte{nil, {0}, {33}, someBytes(r, r.Intn(300))} {
			checkPutTable(t, b, table, slices.Concat(b, rawTable(byte(len(table)), table...)))
		}
	}
}

func TestTakeTableOfWrongBytes(t *testing.T) {
	for _, b := range [][]byte{
		nil,
		{},
		// The number of symbols: too great, with a longer encoding than it needs, or cut.
		rawTable(33, manySymbols(33)...),
		rawTable(33),
		rawTable(34, manySymbols(34)...),
		rawTable(247, manySymbols(247)...),
		{248}, {248, 0}, {248, 1, 2, 'a', 'b'}, {248, 33}, {248, 248}, {249, 0, 0}, {249, 0, 1},
		{255}, {255, 0, 0, 0, 0, 0, 0, 0, 0}, {255, 255, 255, 255, 255, 255, 255, 255, 255},
		{255, 0, 0, 0, 0, 0, 0, 0, 128}, {255, 1, 0, 0, 0, 0, 0, 0, 0, 2, 'a', 'b'},
		// Fewer symbols than said.
		rawTable(1), rawTable(2, "ab"), rawTable(32, manySymbols(31)...),
		// Symbols that are too short or too long.
		rawTable(1, ""), rawTable(1, "a"), rawTable(1, "123456789"), rawTable(2, "ab", "c"), rawTable(2, "c", "ab"),
		rawTable(2, "ab", ""), rawTable(2, "", "ab"), rawTable(2, "ab", "123456789"), rawTable(1, strings.Repeat("x", 247)),
		// Symbols that occur twice.
		rawTable(2, "ab", "ab"), rawTable(3, "ab", "cd", "ab"), rawTable(2, "12345678", "12345678"),
		rawTable(32, append(manySymbols(31), manySymbols(1)...)...),
		// Lengths with a longer encoding than they need, and great ones.
		{1, 248, 2, 'a', 'b'}, {1, 249, 2, 0, 'a', 'b'}, {1, 248, 248}, {1, 255, 2, 0, 0, 0, 0, 0, 0, 0, 'a', 'b'},
		{1, 255, 255, 255, 255, 255, 255, 255, 255, 255, 'a', 'b'}, {1, 255, 0, 0, 0, 0, 0, 0, 0, 128, 'a', 'b'}, {1, 248}, {1, 255},
		// Bytes that end within a symbol.
		{1, 2}, {1, 2, 'a'}, {1, 8, '1', '2', '3', '4', '5', '6', '7'}, {2, 2, 'a', 'b', 3, 'a', 'b'},
	} {
		checkTakeTable(t, b, nil, 0, api.ErrForm)
		if e := checkAnyTakeTable(t, b); e != api.ErrForm {
			t.Errorf("%x is right", b)
		}
	}
}

// No beginning of an encoded table is one.
func TestEncodedTablesCutAnywhere(t *testing.T) {
	r := source()
	tables := knownTables()
	for range 100 {
		tables = append(tables, someTable(r))
	}
	for _, table := range tables {
		b := rawTable(byte(len(table)), table...)
		for i := range b {
			checkTakeTable(t, b[:i], nil, 0, api.ErrForm)
			checkTakeTable(t, slices.Clone(b[:i]), nil, 0, api.ErrForm)
		}
		checkTakeTable(t, b, table, len(b), api.OK)
	}
}

func TestEncodedTablesWithEachByteChanged(t *testing.T) {
	r := source()
	tables := knownTables()
	for range 2 {
		tables = append(tables, someTable(r))
	}
	var seen [15]int
	for _, table := range tables {
		good := rawTable(byte(len(table)), table...)
		for i := range good {
			b := append(slices.Clone(good), "behind it"...)
			for x := range 256 {
				b[i] = byte(x)
				seen[checkAnyTakeTable(t, b)]++
			}
		}
	}
	if seen[api.OK] < 1000 || seen[api.ErrForm] < 1000 {
		t.Errorf("changed bytes led to %d tables, and %d times to ErrForm", seen[api.OK], seen[api.ErrForm])
	}
}

func TestTakeTableOfAnyBytes(t *testing.T) {
	r := source()
	var seen [15]int
	for range 60000 {
		b := someBytes(r, r.Intn(40))
		for i := range b {
			if r.Intn(3) > 0 {
				b[i] = []byte{0, 1, 2, 3, 'a', 'b', 8, 9, 248, 255}[r.Intn(10)]
			}
		}
		seen[checkAnyTakeTable(t, b)]++
	}
	if seen[api.OK] < 1000 || seen[api.ErrForm] < 1000 {
		t.Errorf("%d tables, %d times ErrForm", seen[api.OK], seen[api.ErrForm])
	}
}

// P6.2: the inverse.

// checkInverse decodes what Encode returns, with bounds of all kinds.
func checkInverse(t *testing.T, table []string, b []byte) {
	t.Helper()
	encoded, e := sym.Encode(table, b)
	if e != api.OK {
		t.Errorf("Encode(%q, %.60x) answers the error %d", table, b, e)
		return
	}
	checkBounds(t, table, encoded, b)
}

func TestDecodeUndoesEncode(t *testing.T) {
	r := source()
	for range 3000 {
		table := someTable(r)
		checkInverse(t, table, textOf(r, table))
		checkInverse(t, table, someText(r, r.Intn(1<<r.Intn(9))))
		checkInverse(t, table, someBytes(r, r.Intn(40)))
	}
	for range 300 { // with the table of the very bytes
		b := someText(r, r.Intn(1500))
		checkInverse(t, sym.Train([][]byte{b}), b)
		checkInverse(t, sym.Train([][]byte{b[:len(b)/2], b[len(b)/2:]}), b)
	}
	for _, table := range knownTables() {
		checkInverse(t, table, nil)
		for _, s := range append(table, "a", "\x00", "\xff", "\xff\xff\xff") {
			checkInverse(t, table, []byte(s+s[1:]+s+s[:len(s)-1]))
		}
	}
}

// With every bound below the number of bytes, Decode fails.
func TestEachLowerBound(t *testing.T) {
	r := source()
	for range 200 {
		table := someTable(r)
		b := textOf(r, table)
		encoded, _ := sym.Encode(table, b)
		for most := range b {
			checkDecode(t, table, encoded, most, nil, api.ErrLong)
		}
		checkDecode(t, table, encoded, len(b), b, api.OK)
	}
}

func TestTakeTableUndoesPutTableWhateverFollows(t *testing.T) {
	r := source()
	tables := knownTables()
	for range 1000 {
		tables = append(tables, someTable(r))
	}
	for range 50 {
		tables = append(tables, sym.Train([][]byte{someText(r, r.Intn(400)), someText(r, 50)}))
	}
	for _, table := range tables {
		encoding, e := sym.PutTable(nil, table)
		if e != api.OK {
			t.Errorf("PutTable(nil, %q) answers the error %d", table, e)
		}
		for _, tail := range [][]byte{nil, {0}, {7}, {255}, {255, 255}, []byte("\x02ab"), encoding, someBytes(r, r.Intn(30))} {
			checkTakeTable(t, slices.Concat(encoding, tail), table, len(encoding), api.OK)
		}
		head := someBytes(r, r.Intn(30))
		all, _ := sym.PutTable(head, table)
		checkTakeTable(t, all[len(head):], table, len(encoding), api.OK)
	}
}

// P6.3: bounded expansion.

func checkExpansion(t *testing.T, table []string, b []byte) {
	t.Helper()
	if out, e := sym.Encode(table, b); e != api.OK || len(out) > 2*len(b) {
		t.Errorf("%d bytes, %.60x, are encoded as %d bytes with %q, error %d", len(b), b, len(out), table, e)
	}
}

func TestExpansionIsBounded(t *testing.T) {
	r := source()
	for range 5000 {
		table := someTable(r)
		checkExpansion(t, table, textOf(r, table))
		checkExpansion(t, table, someText(r, r.Intn(100)))
	}
	for _, table := range knownTables() {
		for n := range 300 {
			checkExpansion(t, table, bytes.Repeat([]byte{255}, n))
			checkExpansion(t, table, bytes.Repeat([]byte("a"), n))
			checkExpansion(t, table, someBytes(r, n))
		}
	}
	checkExpansion(t, manySymbols(32), someBytes(r, 1<<20))
	b := someBytes(r, 1000)
	if out, _ := sym.Encode(nil, b); len(out) != 2000 {
		t.Errorf("without symbols, 1000 bytes are encoded as %d bytes", len(out))
	}
}

// Great strings stay possible.
func TestGreatStrings(t *testing.T) {
	r := source()
	table := []string{"aa", "aaaaaaaa", "ab"}
	b := bytes.Repeat([]byte("aaaaaaaab"), 1<<18)
	checkInverse(t, table, b)
	checkEncode(t, table, b, bytes.Repeat([]byte{1, 255, 'b'}, 1<<18))
	checkInverse(t, table, someBytes(r, 1<<20))
	long := bytes.Repeat([]byte{1}, 1<<20)
	checkDecode(t, table, long, 1<<23, bytes.Repeat([]byte("a"), 1<<23), api.OK)
	checkDecode(t, table, long, 1<<23-1, nil, api.ErrLong)
	checkPutTable(t, b, table, slices.Concat(b, rawTable(3, table...)))
}

// P1: arguments stay as they were, results are new memory, and no state is kept.

// withSpare returns b in the middle of more memory, and all of that memory.
func withSpare(b []byte) (arg, all []byte) {
	mark := bytes.Repeat([]byte{0x65}, 400)
	all = slices.Concat(mark, b, mark)
	return all[len(mark) : len(mark)+len(b)], all
}

// tableWithSpare returns the table in the middle of more memory, and all of that memory.
func tableWithSpare(table []string) (arg, all []string) {
	mark := slices.Repeat([]string{"mark"}, 40)
	all = slices.Concat(mark, table, mark)
	return all[len(mark) : len(mark)+len(table)], all
}

// samplesWithSpare returns the samples in the middle of more memory, and all of that memory.
func samplesWithSpare(samples [][]byte) (arg, all [][]byte) {
	mark := [][]byte{[]byte("mark"), nil}
	all = slices.Concat(mark, samples, mark)
	return all[len(mark) : len(mark)+len(samples)], all
}

// fill overwrites bytes, their spare capacity too.
func fill(b []byte, x byte) {
	b = b[:cap(b)]
	for i := range b {
		b[i] = x
	}
}

// fillTable overwrites a table, its spare capacity too.
func fillTable(table []string, s string) {
	table = table[:cap(table)]
	for i := range table {
		table[i] = s
	}
}

func TestArgumentsStay(t *testing.T) {
	r := source()
	tables := append(knownTables(), wrongTables()...)
	for range 30 {
		tables = append(tables, someTable(r))
	}
	for _, table := range tables {
		for _, content := range [][]byte{nil, textOf(r, knownTables()[6]), someBytes(r, 50), {0, 0, 255, 'a'}, {255}, rawTable(2, "ab", "cd"), rawTable(2, "ab", "ab")} {
			b, all := withSpare(content)
			arg, allSymbols := tableWithSpare(table)
			before, symbolsBefore := slices.Clone(all), slices.Clone(allSymbols)
			sym.Formed(arg)
			sym.Encode(arg, b)
			for _, most := range []int{-1, 0, 2, 1000} {
				sym.Decode(arg, b, most)
			}
			sym.PutTable(b, arg)
			sym.TakeTable(b)
			if !bytes.Equal(all, before) || !slices.Equal(allSymbols, symbolsBefore) {
				t.Errorf("%x, %q: the memory of an argument was changed", content, table)
			}
		}
	}
}

func TestSamplesStay(t *testing.T) {
	r := source()
	for range 100 {
		var samples, memory [][]byte
		for range r.Intn(8) {
			b, all := withSpare(someText(r, r.Intn(400)))
			samples, memory = append(samples, b), append(memory, all)
		}
		arg, list := samplesWithSpare(samples)
		before, listBefore := slices.Concat(memory...), slices.Clone(list)
		sym.Train(arg)
		if !bytes.Equal(slices.Concat(memory...), before) {
			t.Errorf("%x: the memory of a sample was changed", samples)
		}
		for i := range list {
			if len(list[i]) != len(listBefore[i]) || len(list[i]) > 0 && &list[i][0] != &listBefore[i][0] {
				t.Errorf("%x: the list of the samples was changed", samples)
			}
		}
	}
}

// What stands in the spare capacity, and ahead of the argument, is no part of it.
func TestSpareCapacityIsNotRead(t *testing.T) {
	b := []byte("abab")
	checkEncode(t, []string{"ab"}, b[:1], []byte{255, 'a'})
	checkEncode(t, []string{"ab"}, b[1:2], []byte{255, 'b'})
	checkEncode(t, []string{"aba", "ab"}, b[:2], []byte{1})
	checkTrain(t, nil, b[:3])
	checkTrain(t, nil, b[1:])
	list := asSamples("ab", "ab", "ab")
	checkTrain(t, nil, list[:1]...)
	table := []string{"ab", "cd", "ab"}
	checkFormed(t, table[:2], true)
	checkFormed(t, table[1:], true)
	checkEncode(t, table[:1], []byte("cd"), []byte{255, 'c', 255, 'd'})
	checkDecode(t, table[:1], []byte{1}, 9, nil, api.ErrForm)
	checkDecode(t, table[:1], []byte{255, 'a', 255, 'b'}[:3], 9, nil, api.ErrForm)
	checkPutTable(t, b[:2], table[:1], []byte("ab\x01\x02ab"))
	checkTakeTable(t, rawTable(1, "abc")[:4], nil, 0, api.ErrForm)
	checkTakeTable(t, rawTable(1, "abc")[:0], nil, 0, api.ErrForm)
}

// checkMemory calls f twice and finds out whether the results share memory with the arguments or one another.
func checkMemory(t *testing.T, name string, content []byte, table []string, f func(b []byte, table []string) []byte) {
	t.Helper()
	b, all := withSpare(content)
	arg, allSymbols := tableWithSpare(table)
	before := slices.Clone(all)
	one, two := f(b, arg), f(b, arg)
	want := slices.Clone(one)
	fill(all, 0x11)
	fillTable(allSymbols, "other")
	if !bytes.Equal(one, want) || !bytes.Equal(two, want) {
		t.Errorf("%s: a changed argument changed a result", name)
	}
	copy(all, before)
	fill(one, 0x22)
	if !bytes.Equal(all, before) || !bytes.Equal(two, want) {
		t.Errorf("%s: a result shares memory", name)
	}
}

// checkTableMemory calls f twice, which returns a table made from bytes, and finds out whether they share memory.
func checkTableMemory(t *testing.T, name string, content []byte, f func(b []byte) []string) {
	t.Helper()
	b, all := withSpare(content)
	before := slices.Clone(all)
	one, two := f(b), f(b)
	want := strings.Join(one, "|") // new memory for every symbol
	fill(all, 0x11)
	if strings.Join(one, "|") != want || strings.Join(two, "|") != want {
		t.Errorf("%s: a changed argument changed a result", name)
	}
	copy(all, before)
	fillTable(one, "other")
	if !bytes.Equal(all, before) || strings.Join(two, "|") != want {
		t.Errorf("%s: a result shares memory", name)
	}
}

func TestResultsAreNewMemory(t *testing.T) {
	r := source()
	for _, table := range append(knownTables(), someTable(r), someTable(r)) {
		for _, text := range [][]byte{nil, {'a'}, textOf(r, table), someBytes(r, 30)} {
			checkMemory(t, "Encode", text, table, func(b []byte, table []string) []byte {
				out, _ := sym.Encode(table, b)
				return out
			})
			encoded, _ := sym.Encode(table, text)
			checkMemory(t, "Decode", encoded, table, func(b []byte, table []string) []byte {
				out, _ := sym.Decode(table, b, 10000)
				return out
			})
			checkMemory(t, "PutTable", text, table, func(b []byte, table []string) []byte {
				out, _ := sym.PutTable(b, table)
				return out
			})
			checkTableMemory(t, "Train", slices.Concat(text, text), func(b []byte) []string {
				return sym.Train([][]byte{b, b})
			})
		}
		checkTableMemory(t, "TakeTable", rawTable(byte(len(table)), table...), func(b []byte) []string {
			out, _, _ := sym.TakeTable(b)
			return out
		})
	}
}

func TestNoStateIsKept(t *testing.T) {
	for range 3 {
		checkTrain(t, []string{"ab"}, asSamples("abab", "ab")...)
		checkTrain(t, nil, asSamples("ab")...)
		checkEncode(t, []string{"ab"}, []byte("ab"), []byte{0})
		checkEncode(t, []string{"cd"}, []byte("ab"), []byte{255, 'a', 255, 'b'})
		checkDecode(t, []string{"cd"}, []byte{0}, 2, []byte("cd"), api.OK)
		checkDecode(t, nil, []byte{0}, 2, nil, api.ErrForm)
		checkDecode(t, []string{"cd"}, []byte{0}, 1, nil, api.ErrLong)
		checkPutTable(t, nil, []string{"cd"}, []byte{1, 2, 'c', 'd'})
		checkPutTable(t, nil, nil, []byte{0})
		checkTakeTable(t, []byte{1, 2, 'c', 'd'}, []string{"cd"}, 4, api.OK)
		checkTakeTable(t, []byte{0}, nil, 1, api.OK)
		checkFormed(t, []string{"a"}, false)
		checkFormed(t, nil, true)
	}
}
