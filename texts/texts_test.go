package texts_test

import (
	"bytes"
	"math/rand"
	"slices"
	"strings"
	"testing"

	"dragnet/api"
	"dragnet/lz"
	"dragnet/num"
	"dragnet/pfor"
	"dragnet/sym"
	"dragnet/texts"
)

// The helpers below follow the chapter's definitions by other means than the package does: lines are strings, both payloads are always made, and a payload is unpacked whole before its bytes are held against the lengths. Numbers, lists, packed bytes and tables are those of layers 2 and 4 to 6, which have tests of their own.

// plenty are more bytes than any payload of these tests stands for.
const plenty = 1 << 23

// rows are the bytes of the lines.
func rows(lines []string) [][]byte {
	var l [][]byte
	for _, line := range lines {
		l = append(l, []byte(line))
	}
	return l
}

// lens are the numbers of bytes of the lines.
func lens(lines []string) []uint64 {
	var l []uint64
	for _, line := range lines {
		l = append(l, uint64(len(line)))
	}
	return l
}

// raw lays the parts of an encoding one behind the other, right or wrong.
func raw(kind byte, lengths []uint64, payload []byte) []byte {
	return slices.Concat([]byte{kind}, pfor.PutList(nil, lengths), num.PutRow(nil, payload))
}

// withTable is the payload of the text with the given table.
func withTable(table []string, text string) []byte {
	head, e := sym.PutTable(nil, table)
	if e != api.OK {
		panic("no table")
	}
	codes, _ := sym.Encode(table, []byte(text))
	return slices.Concat(head, codes)
}

// handPayloads are the payloads of the two kinds, the first of which is the one that is packed.
func handPayloads(lines []string) [2][]byte {
	text := strings.Join(lines, "")
	return [2][]byte{lz.Pack([]byte(text)), withTable(sym.Train(rows(lines)), text)}
}

// handKind is the kind of the canonical encoding.
func handKind(lines []string) byte {
	p := handPayloads(lines)
	if len(p[0]) <= len(p[1]) {
		return 1
	}
	return 2
}

// handPut is the canonical encoding of the lines.
func handPut(lines []string) []byte {
	kind := handKind(lines)
	return raw(kind, lens(lines), handPayloads(lines)[kind-1])
}

// handText is all that the payload stands for.
func handText(kind byte, payload []byte) (text []byte, ok bool) {
	if kind == 1 {
		text, e := lz.Unpack(payload, plenty)
		return text, e == api.OK
	}
	table, size, e := sym.TakeTable(payload)
	if kind != 2 || e != api.OK {
		return nil, false
	}
	text, e = sym.Decode(table, payload[size:], plenty)
	return text, e == api.OK
}

// handTake reads the lines that b begins with.
func handTake(b []byte) (lines []string, size int, e api.Errno) {
	if len(b) == 0 {
		return nil, 0, api.ErrForm
	}
	lengths, listSize, e := pfor.TakeList(b[1:], plenty)
	if e != api.OK || len(lengths) == 0 || len(lengths) > 16 || slices.Max(lengths) > 65536 {
		return nil, 0, api.ErrForm
	}
	rest := b[1+listSize:]
	n, numSize, e := num.Take(rest)
	if e != api.OK || n > uint64(len(rest)-numSize) {
		return nil, 0, api.ErrForm
	}
	end := numSize + int(n)
	text, ok := handText(b[0], rest[numSize:end])
	if !ok {
		return nil, 0, api.ErrForm
	}
	for _, n := range lengths {
		if n > uint64(len(text)) {
			return nil, 0, api.ErrForm
		}
		lines, text = append(lines, string(text[:n])), text[n:]
	}
	if len(text) > 0 {
		return nil, 0, api.ErrForm
	}
	return lines, 1 + listSize + end, api.OK
}

// granules of many kinds

func source() *rand.Rand {
	return rand.New(rand.NewSource(1))
}

func someBytes(r *rand.Rand, n int) []byte {
	b := make([]byte, n)
	r.Read(b)
	return b
}

// someText returns n bytes: any ones, few different ones, ones of a log, or short strings in any order or between any bytes.
func someText(r *rand.Rand, n int) string {
	words := [][]string{
		{"2026-11-15 ", "error ", "warn ", "user=ann ", "user=bob ", "took ms=", "120", "7", "GET /a ", "\t"},
		{"ab", "cd", "ef", "gh", "xy", "zz"},
		{"a", "b"},
		{"abc", "d", "ef", "\x00", "\xff", "\xff\xff", "\x00\x01"},
	}
	kind := r.Intn(len(words) + 3)
	if kind == len(words) {
		return string(someBytes(r, n))
	}
	var b strings.Builder
	for b.Len() < n {
		if kind > len(words) {
			b.WriteString([]string{"abc", "bcd", "xyz", "ms="}[r.Intn(4)])
			b.WriteByte(byte(r.Intn(256)))
		} else {
			b.WriteString(words[kind][r.Intn(len(words[kind]))])
		}
	}
	return b.String()[:n]
}

// someLines cuts a text of n bytes anywhere into so many lines.
func someLines(r *rand.Rand, count, n int) []string {
	text := someText(r, n)
	cuts := []int{0, n}
	for range count - 1 {
		cuts = append(cuts, r.Intn(n+1))
	}
	slices.Sort(cuts)
	var lines []string
	for i := range count {
		lines = append(lines, text[cuts[i]:cuts[i+1]])
	}
	return lines
}

// square is a text in which each two of the three strings ab, cd and ef follow one another once, and no four bytes stand twice.
const square = "ababcdabefcdcdefefab"

// knownGranules are granules of edges, of both kinds.
func knownGranules() [][]string {
	var every []byte
	for x := range 256 {
		every = append(every, byte(x))
	}
	list := [][]string{
		{""}, {"", ""}, slices.Repeat([]string{""}, 16), {"abc"}, {"", "abc", ""}, {"abc", "abc"}, {"a", "b", "c"}, {"\x00"}, {"\xff"}, {"\xff\xff\xff\xff"},
		{square}, {square[:16]}, {square[:14]}, {square[:7], square[7:]}, {square, "", square}, slices.Repeat([]string{square}, 16), strings.Split(square[:16], ""),
		{string(every)}, {string(every), string(every)}, {strings.Repeat("a", 65536)}, {strings.Repeat("ab", 500), strings.Repeat("ba", 500)},
	}
	for n := 1; n <= 16; n++ {
		list = append(list, slices.Repeat([]string{"x"}, n), slices.Repeat([]string{"2026-11-15 error user=ann took ms=120"}, n))
	}
	for _, n := range []int{1, 2, 3, 4, 5, 14, 15, 16, 246, 247, 248, 254, 255, 256, 257, 269, 270, 271, 1000} {
		list = append(list, []string{strings.Repeat("a", n)}, []string{strings.Repeat("a", n), "b"}, []string{string(every[:min(n, 256)])})
	}
	return list
}

// granules returns known granules, and others of many sizes.
func granules(r *rand.Rand) [][]string {
	list := knownGranules()
	for count := 1; count <= 16; count++ {
		for _, n := range []int{0, 1, 4, 16, 30, 60, 120, 250, 500, 1000, 1100, 3000} {
			list = append(list, someLines(r, count, n))
		}
	}
	return list
}

func checkPut(t *testing.T, b []byte, lines []string, want []byte, e api.Errno) {
	t.Helper()
	got, gotE := texts.Put(b, rows(lines))
	if !bytes.Equal(got, want) || gotE != e {
		t.Errorf("Put(%.20x, %.80q of %d lines) = %.60x of %d bytes, error %d; want %.60x of %d bytes, error %d",
			b, lines, len(lines), got, len(got), gotE, want, len(want), e)
	}
}

func checkTake(t *testing.T, b []byte, lines []string, size int, e api.Errno) {
	t.Helper()
	got, gotSize, gotE := texts.Take(b)
	if !slices.EqualFunc(got, rows(lines), bytes.Equal) || gotSize != size || gotE != e {
		t.Errorf("Take(%.60x of %d bytes) = %.80q of %d lines, %d, error %d; want %.80q of %d lines, %d, error %d",
			b, len(b), got, len(got), gotSize, gotE, lines, len(lines), size, e)
	}
}

// checkTakeAny holds Take against the definition.
func checkTakeAny(t *testing.T, b []byte) (taken bool) {
	t.Helper()
	lines, size, e := handTake(b)
	checkTake(t, b, lines, size, e)
	return e == api.OK
}

// checkLines asks that the bytes, and more behind them, are read as these lines.
func checkLines(t *testing.T, b []byte, lines []string) {
	t.Helper()
	for _, behind := range [][]byte{nil, {0}, {1}, {255}, make([]byte, 40)} {
		checkTake(t, slices.Concat(b, behind), lines, len(b), api.OK)
	}
}

// checkNoGranule asks that the bytes are refused, by the definition too.
func checkNoGranule(t *testing.T, b []byte) {
	t.Helper()
	checkTake(t, b, nil, 0, api.ErrForm)
	if checkTakeAny(t, b) {
		t.Errorf("%.60x is a granule", b)
	}
}

// P11.1: the chapter's example.

func TestExample(t *testing.T) {
	b := []byte{1, 1, 1, 3, 0, 0, 4, 0x30, 'a', 'b', 'c'}
	checkPut(t, nil, []string{"abc"}, b, api.OK)
	checkTake(t, b, []string{"abc"}, 11, api.OK)
}

// P11.1: Put.

type known struct {
	lines []string
	b     string
}

// knownEncodings are canonical encodings that were found by hand.
func knownEncodings() []known {
	return []known{
		{[]string{""}, "\x01\x01\x01\x00\x00\x00\x01\x00"},
		{[]string{"", ""}, "\x01\x02\x02\x00\x00\x00\x01\x00"},
		{slices.Repeat([]string{""}, 16), "\x01\x10\x10\x00\x00\x00\x01\x00"},
		{[]string{"\xff"}, "\x01\x01\x01\x01\x00\x00\x02\x10\xff"},
		{[]string{"a", "bc"}, "\x01\x02\x02\x01\x01\x00\x02\x04\x30abc"},
		{[]string{"ab", "c"}, "\x01\x02\x02\x01\x01\x00\x01\x04\x30abc"},
		{[]string{"abc", ""}, "\x01\x02\x02\x00\x02\x00\x03\x04\x30abc"},
		{[]string{"abcabcabc"}, "\x01\x01\x01\x09\x00\x00\x07\x32abc\x03\x00\x00"},
		{[]string{"abcab", "cabc"}, "\x01\x02\x02\x04\x01\x00\x01\x07\x32abc\x03\x00\x00"},
		{[]string{square}, "\x02\x01\x01\x14\x00\x00\x14\x03\x02ab\x02cd\x02ef\x00\x00\x01\x00\x02\x01\x01\x02\x02\x00"},
	}
}

func TestKnownEncodings(t *testing.T) {
	for _, c := range knownEncodings() {
		checkPut(t, nil, c.lines, []byte(c.b), api.OK)
		checkLines(t, []byte(c.b), c.lines)
	}
}

// The kind 2 is taken only if its payload has fewer bytes; here the payloads' bytes were counted by hand.
func TestTheShorterPayload(t *testing.T) {
	cases := []struct {
		lines         []string
		packed, coded int
		kind          byte
	}{
		{[]string{""}, 1, 1, 1},
		{[]string{"a"}, 2, 3, 1},
		{[]string{square[:14]}, 15, 17, 1},
		{[]string{square[:16]}, 18, 18, 1},
		{[]string{square[:18]}, 20, 19, 2},
		{[]string{square}, 22, 20, 2},
		{[]string{"", square[:18]}, 20, 19, 2},
		{[]string{"", square[:16]}, 18, 18, 1},
	}
	for _, c := range cases {
		p := handPayloads(c.lines)
		if len(p[0]) != c.packed || len(p[1]) != c.coded {
			t.Errorf("%q: payloads of %d and %d bytes, want %d and %d", c.lines, len(p[0]), len(p[1]), c.packed, c.coded)
		}
		checkPut(t, nil, c.lines, raw(c.kind, lens(c.lines), p[c.kind-1]), api.OK)
	}
}

// somePairs is a text of strings of two bytes, no two of which follow one another twice, so that the payloads have nearly the same size.
func somePairs(r *rand.Rand) string {
	words := []string{"ab", "cd", "ef", "gh", "ij"}[:3+r.Intn(3)]
	used := map[[2]string]int{}
	text, last := "", ""
	for range 40 {
		next := words[r.Intn(len(words))]
		if used[[2]string{last, next}] == 0 {
			used[[2]string{last, next}]++
			text, last = text+next, next
		}
	}
	return text
}

// What counts are the bytes of the payload, not those of the encoding, nor those behind the table.
func TestPayloadsOfAlmostOneSize(t *testing.T) {
	r, counts := source(), map[int]int{}
	for range 2000 {
		text := somePairs(r)
		cut := r.Intn(len(text))
		lines := []string{text[:cut], text[cut:]}
		p := handPayloads(lines)
		counts[len(p[1])-len(p[0])]++
		checkPut(t, nil, lines, handPut(lines), api.OK)
	}
	for d := -2; d <= 2; d++ {
		if counts[d] < 20 {
			t.Errorf("%d granules with payloads that differ by %d", counts[d], d)
		}
	}
}

// The table is that of the lines as samples: pieces do not reach from one line into the next, but symbols may, as the payload stands for all lines together.
func TestLinesAreSamples(t *testing.T) {
	cases := []struct {
		lines []string
		table []string
	}{
		{[]string{square}, []string{"ab", "cd", "ef"}},
		{[]string{"ababcdabefcdcdefefa", "b"}, []string{"ab", "cd", "ef"}}, // the last ab is cut, and is a symbol all the same
		{[]string{"ababcda", "befcdcdefefab"}, []string{"ab", "cd", "ef"}},
		{[]string{"ababc", "dabefcdcdefefab"}, []string{"ab", "ef", "cd"}},
	}
	for _, c := range cases {
		want := raw(2, lens(c.lines), withTable(c.table, square))
		checkPut(t, nil, c.lines, want, api.OK)
		checkLines(t, want, c.lines)
	}
	split := slices.Concat(strings.Split(square[:13], ""), []string{square[13:]}) // one piece alone occurs twice, and no byte is saved
	checkPut(t, nil, split, raw(1, lens(split), lz.Pack([]byte(square))), api.OK)
}

// Only 1024 bytes of all lines lead to the table.
func TestTableOfTheFirstBytes(t *testing.T) {
	r := source()
	for _, ahead := range []int{0, 500, 980, 1000, 1010, 1022, 1023, 1024, 1025, 2000} {
		for range 4 {
			lines := []string{string(someBytes(r, ahead/2)), string(someBytes(r, ahead-ahead/2)), square, "", square[2:] + square}
			checkPut(t, nil, lines, handPut(lines), api.OK)
		}
	}
}

func TestPutFollowsTheDefinition(t *testing.T) {
	r, kinds := source(), map[byte]int{}
	for range 3 {
		for _, lines := range granules(r) {
			kinds[handKind(lines)]++
			checkPut(t, nil, lines, handPut(lines), api.OK)
		}
	}
	if kinds[1] < 100 || kinds[2] < 100 {
		t.Errorf("granules by kinds: %v", kinds)
	}
}

func TestPutOfFewerOrMoreLines(t *testing.T) {
	long := strings.Repeat("a", 65537)
	for n := range 40 {
		for _, line := range []string{"", "a", "abc", square} {
			lines := slices.Repeat([]string{line}, n)
			for _, ahead := range [][]byte{nil, {1, 2, 3}} {
				if n >= 1 && n <= 16 {
					checkPut(t, ahead, lines, slices.Concat(ahead, handPut(lines)), api.OK)
				} else {
					checkPut(t, ahead, lines, nil, api.ErrArg)
				}
			}
		}
		if n > 16 {
			checkPut(t, nil, slices.Repeat([]string{long}, n), nil, api.ErrArg) // this error comes first
		}
	}
	checkPut(t, nil, []string{}, nil, api.ErrArg)
	if b, e := texts.Put([]byte{1}, nil); b != nil || e != api.ErrArg {
		t.Errorf("Put of no lines = %x, error %d", b, e)
	}
	for _, n := range []int{256, 257, 272, 4096, 1 << 16, 1<<16 + 1, 1<<20 + 16} {
		if b, e := texts.Put([]byte{1}, make([][]byte, n)); b != nil || e != api.ErrArg {
			t.Errorf("Put of %d lines = %x, error %d", n, b, e)
		}
	}
}

// One line that is too long is found wherever it stands.
func TestPutOfLongLines(t *testing.T) {
	for _, n := range []int{65537, 65538, 1 << 17, 1<<17 + 1, 1 << 20} {
		long := strings.Repeat("a", n)
		for count := 1; count <= 16; count++ {
			for i := range count {
				lines := slices.Repeat([]string{"ab"}, count)
				lines[i] = long
				checkPut(t, []byte{9}, lines, nil, api.ErrLong)
			}
		}
		checkPut(t, nil, slices.Repeat([]string{long}, 16), nil, api.ErrLong)
	}
	for _, n := range []int{65534, 65535, 65536} {
		line := strings.Repeat("ab", n)[:n]
		for _, lines := range [][]string{{line}, {"", line}, {line, "", "x"}, {"x", line, line}} {
			checkPut(t, nil, lines, handPut(lines), api.OK)
			checkLines(t, handPut(lines), lines)
		}
	}
}

func TestBytesStayAhead(t *testing.T) {
	r := source()
	for _, lines := range granules(r)[:80] {
		for _, ahead := range [][]byte{nil, {}, {0}, {255}, {1, 1, 1}, someBytes(r, 100), someBytes(r, 5000)} {
			checkPut(t, ahead, lines, slices.Concat(ahead, handPut(lines)), api.OK)
		}
	}
}

// P11.1: encodings that are not the canonical ones.

func TestTakeOfBothKinds(t *testing.T) {
	r := source()
	for _, lines := range granules(r) {
		for i, payload := range handPayloads(lines) {
			checkLines(t, raw(byte(1+i), lens(lines), payload), lines)
		}
	}
}

func TestTakeOfOtherTables(t *testing.T) {
	tables := [][]string{
		nil, {"ab"}, {"zz"}, {"ef", "cd", "ab"}, {"abcdabef", "ab", "xx"}, {"b\x00", "\xff\xff", "\x00\x00\x00\x00\x00\x00\x00\x00"},
		strings.Split("aa ab ac ad ae af ag ah ai aj ak al am an ao ap aq ar as at au av aw ax ay az ba bb bc bd be ef", " "),
	}
	r := source()
	for _, lines := range granules(r)[:90] {
		for _, table := range tables {
			checkLines(t, raw(2, lens(lines), withTable(table, strings.Join(lines, ""))), lines)
		}
	}
}

func TestTakeOfOtherPayloads(t *testing.T) {
	one := func(kind byte, payload, text string) {
		t.Helper()
		checkLines(t, raw(kind, []uint64{uint64(len(text))}, []byte(payload)), []string{text})
		checkLines(t, raw(kind, []uint64{1, uint64(len(text)) - 1}, []byte(payload)), []string{text[:1], text[1:]})
	}
	one(1, "\x90abcabcabc", "abcabcabc")                  // literals alone
	one(1, "\x60abcabc\x03\x00\x00", "abcabcabca")        // part of them
	one(1, "\x30aaa\x01\x00\x10a", "aaaaaaaa")            // a reference that is late
	one(1, "\x11a\x01\x00\x00\x01\x00\x00", "aaaaaaaaaa") // two, where one would do
	one(2, "\x00\xffa\xffb", "ab")                        // no table
	one(2, "\x01\x02ab\x00", "ab")                        // a short text
	one(2, "\x01\x02ab\xffa\xffb", "ab")                  // a symbol that is not used
	one(2, "\x02\x02ab\x03abc\x00\xffc\x01", "abcabc")    // a symbol that is not the longest
	one(2, "\x02\x02xy\x03abc\x01\xff\xff", "abc\xff")
	checkLines(t, raw(2, []uint64{0}, []byte{0}), []string{""})
	checkLines(t, raw(2, []uint64{0, 0}, []byte("\x01\x02ab")), []string{"", ""})
}

// A payload may have far more bytes than it stands for.
func TestTakeOfLongPayloads(t *testing.T) {
	r := source()
	for _, n := range []int{0, 1, 30, 1000, 65536} {
		for _, count := range []int{1, 2, 16} {
			var lines []string
			for range count {
				lines = append(lines, string(someBytes(r, n)))
			}
			b := raw(2, lens(lines), withTable(nil, strings.Join(lines, "")))
			checkTake(t, append(b, 7), lines, len(b), api.OK)
		}
	}
	var table []string
	for i := range 32 {
		table = append(table, "symbol"+string([]byte{byte(i), 0}))
	}
	checkLines(t, raw(2, []uint64{1, 0}, withTable(table, "a")), []string{"a", ""})
	checkLines(t, raw(2, []uint64{0}, withTable(table, "")), []string{""})
}

// P11.1: bytes that begin with no granule.

func TestTakeOfOtherKinds(t *testing.T) {
	for kind := range 256 {
		for _, lines := range [][]string{{""}, {"abc"}, {square}} {
			for i, payload := range handPayloads(lines) {
				b := raw(byte(kind), lens(lines), payload)
				if kind == i+1 {
					checkLines(t, b, lines)
				} else if kind != 1 && kind != 2 {
					checkNoGranule(t, b)
				} else {
					checkTakeAny(t, b)
				}
			}
		}
	}
}

func TestTakeOfFewerOrMoreLines(t *testing.T) {
	for n := range 70 {
		for _, length := range []uint64{0, 1, 3} {
			text := strings.Repeat("a", n*int(length))
			for i, payload := range handPayloads([]string{text}) {
				b := raw(byte(1+i), slices.Repeat([]uint64{length}, n), payload)
				if n >= 1 && n <= 16 {
					checkLines(t, b, slices.Repeat([]string{text[:length]}, n))
				} else {
					checkNoGranule(t, b)
				}
			}
		}
	}
}

func TestTakeOfLongLines(t *testing.T) {
	for _, n := range []int{65535, 65536, 65537, 65538, 65792, 1 << 17, 1 << 20, 1<<20 + 1} {
		text := strings.Repeat("a", n)
		for _, more := range []string{"", "ab"} {
			lines := []string{more, text, more}
			for i, payload := range handPayloads(lines) {
				b := raw(byte(1+i), lens(lines), payload)
				if n <= 65536 {
					checkLines(t, b, lines)
				} else {
					checkNoGranule(t, b)
				}
			}
		}
	}
}

// Lengths whose sum wraps round, or is too great, are refused, though the payload has as many bytes as the rest of the sum says.
func TestTakeOfGreatLengths(t *testing.T) {
	great := []uint64{65537, 1 << 17, 1 << 31, 1<<31 + 3, 1<<32 - 1, 1 << 32, 1<<32 + 3, 1<<62 + 3, 1<<63 - 1, 1 << 63, 1<<63 + 3, 1<<64 - 3, 1<<64 - 2, 1<<64 - 1}
	for _, a := range great {
		for _, b := range append(great, 0, 1, 3, 6) {
			for _, lengths := range [][]uint64{{a, b}, {b, a}, {3, a, b}, {a, b, 0, 3}} {
				sum := uint64(0)
				for _, n := range lengths {
					sum += n
				}
				for _, n := range []uint64{0, 3, sum, uint64(uint32(sum))} {
					if n > 1<<18 {
						continue
					}
					for i, payload := range handPayloads([]string{strings.Repeat("a", int(n))}) {
						checkNoGranule(t, raw(byte(1+i), lengths, payload))
					}
				}
			}
		}
	}
}

// The payload stands for exactly as many bytes as the lengths add up to.
func TestTakeOfFewerOrMoreBytes(t *testing.T) {
	r := source()
	for range 40 {
		lines := someLines(r, 1+r.Intn(16), 20+r.Intn(60))
		text := strings.Join(lines, "")
		for _, n := range []int{0, 1, len(text) - 4, len(text) - 1, len(text), len(text) + 1, len(text) + 4, 2 * len(text), 2000} {
			other := (text + strings.Repeat("x", 2000))[:n]
			for i, payload := range handPayloads([]string{other}) {
				b := raw(byte(1+i), lens(lines), payload)
				if n == len(text) {
					checkLines(t, b, lines)
				} else {
					checkNoGranule(t, b)
				}
			}
		}
	}
}

func TestTakeOfWrongBytes(t *testing.T) {
	list := func(lengths ...uint64) string { return string(pfor.PutList(nil, lengths)) }
	wrong := []string{
		"", "\x00", "\x01", "\x02", "\x03", "\xff", "\x01\x00", "\x01\x00\x00", "\x01\x00\x01\x00", "\x02\x00\x01\x00", "\x01\x01", "\x01\x01\x01\x03\x00\x00",
		"\x00" + list(3) + "\x04\x30abc", "\x03" + list(3) + "\x04\x30abc", "\x81" + list(3) + "\x04\x30abc",
		"\x01" + list(3) + "\x03\x30ab", "\x01" + list(3) + "\x03\x30abc", "\x01" + list(3) + "\x05\x30abcd", "\x01" + list(3) + "\x05\x30abc", // a row of another size
		"\x01" + list(3) + "\xf8\x04\x30abc", "\x01" + list(3) + "\xff\x04\x00\x00\x00\x00\x00\x00\x00\x30abc", // the size in too many bytes
		"\x01" + list(3) + "\xff\xff\xff\xff\xff\xff\xff\xff\xff\x30abc", "\x01" + list(3) + "\xff\xff\xff\xff\xff\xff\xff\xff\x7f\x30abc", "\x01" + list(3) + "\xf9\x30",
		"\x01\xf8\x01\x01\x03\x00\x00\x04\x30abc", "\x01\x01\x01\x03\x01\x00\x00\x04\x30abc", "\x01\x02\x01\x03\x00\x00\x04\x30abc", "\x01\x01\x02\x03\x00\x00\x04\x30abc", // not the list's encoding
		"\x01" + list(3) + "\x00", "\x01" + list(3) + "\x01\x00", "\x01" + list(3) + "\x04\x31abc", "\x01" + list(3) + "\x04\x20abc", "\x01" + list(3) + "\x04\x40abc",
		"\x01" + list(0) + "\x00", "\x01" + list(0) + "\x01\x01", "\x01" + list(0) + "\x02\x10a", "\x01" + list(1, 2) + "\x05\x30abc\x00",
		"\x01" + list(9) + "\x06\x32abc\x03\x00", "\x01" + list(9) + "\x07\x32abc\x00\x00\x00", "\x01" + list(9) + "\x07\x32abc\x04\x00\x00", "\x01" + list(8) + "\x07\x32abc\x03\x00\x00", "\x01" + list(10) + "\x07\x32abc\x03\x00\x00",
		"\x02" + list(0) + "\x00", "\x02" + list(0) + "\x02\x00\x00", "\x02" + list(2) + "\x01\x00", "\x02" + list(2) + "\x05\x01\x02ab\x01", "\x02" + list(2) + "\x05\x01\x02ab\xff", "\x02" + list(2) + "\x04\x01\x02ab",
		"\x02" + list(1) + "\x05\x01\x02ab\x00", "\x02" + list(3) + "\x05\x01\x02ab\x00", "\x02" + list(2) + "\x06\x01\x02ab\x00\x00", "\x02" + list(2) + "\x05\x02\x02ab\x00",
		"\x02" + list(1) + "\x04\x01\x01a\x00", "\x02" + list(2) + "\x08\x02\x02ab\x02ab\x00", "\x02" + list(9) + "\x0c\x01\x09abcdefghi\x00", "\x02" + list(2) + "\x06\xf8\x01\x02ab\x00", // no tables
	}
	for _, b := range wrong {
		checkNoGranule(t, []byte(b))
	}
	right := []string{"\x01" + list(3) + "\x04\x30abc", "\x01" + list(9) + "\x07\x32abc\x03\x00\x00", "\x02" + list(2) + "\x05\x01\x02ab\x00"}
	for i, b := range right {
		checkLines(t, []byte(b), []string{[]string{"abc", "abcabcabc", "ab"}[i]})
	}
}

func TestTakeOfCutGranules(t *testing.T) {
	r := source()
	for _, lines := range granules(r)[:120] {
		for i, payload := range handPayloads(lines) {
			b := raw(byte(1+i), lens(lines), payload)
			for size := 0; size < len(b); size += 1 + size/100 {
				checkNoGranule(t, b[:size])
				checkNoGranule(t, slices.Clone(b[:size]))
			}
		}
	}
}

func TestTakeOfChangedGranules(t *testing.T) {
	r, taken, refused := source(), 0, 0
	try := func(b []byte) {
		if checkTakeAny(t, b) {
			taken++
		} else {
			refused++
		}
	}
	for range 100 {
		lines := someLines(r, 1+r.Intn(16), r.Intn(60))
		for i, payload := range handPayloads(lines) {
			b := raw(byte(1+i), lens(lines), payload)
			for i := range b {
				was := b[i]
				for _, x := range []byte{0, 1, was + 1, was - 1, was ^ 0x80, ^was, 248, byte(r.Intn(256))} {
					b[i] = x
					try(b)
				}
				b[i] = was
				try(slices.Delete(slices.Clone(b), i, i+1))
				try(slices.Insert(slices.Clone(b), i, byte(r.Intn(3))))
			}
		}
	}
	if taken < 1000 || refused < 1000 {
		t.Errorf("%d changed granules were taken, %d were not", taken, refused)
	}
}

// someParts lays parts side by side that may belong to one granule.
func someParts(r *rand.Rand) []byte {
	text := someText(r, r.Intn(12))
	payload := lz.Pack([]byte(text))
	kind := byte(1 + r.Intn(2))
	if kind == 2 {
		payload = withTable([]string{"ab", "cd"}[:r.Intn(3)], text)
	}
	left, lengths := len(text), []uint64{}
	for range r.Intn(4) {
		n := r.Intn(left + 1)
		lengths, left = append(lengths, uint64(n)), left-n
	}
	if r.Intn(4) > 0 {
		lengths = append(lengths, uint64(left))
	}
	if r.Intn(8) == 0 {
		payload = append(payload, byte(r.Intn(3)))
	}
	return append(raw(kind, lengths, payload), someBytes(r, r.Intn(3))...)
}

func TestTakeOfAnyBytes(t *testing.T) {
	r, taken, refused := source(), 0, 0
	for range 100000 {
		b := someParts(r)
		if r.Intn(3) == 0 {
			b = append([]byte{byte(1 + r.Intn(2)), 1, 1, byte(r.Intn(7)), 0, 0}, someBytes(r, 1+r.Intn(9))...)
			b[6] %= 10
		}
		if checkTakeAny(t, b) {
			taken++
		} else {
			refused++
		}
	}
	if taken < 10000 || refused < 10000 {
		t.Errorf("%d bytes were taken, %d were not", taken, refused)
	}
}

// checkAll tries all ways to lay up to most of the bytes behind b.
func checkAll(t *testing.T, b, alphabet []byte, most int) {
	t.Helper()
	checkTakeAny(t, b)
	if most > 0 {
		for _, x := range alphabet {
			checkAll(t, append(b[:len(b):len(b)], x), alphabet, most-1)
		}
	}
}

func TestTakeOfAllShortBytes(t *testing.T) {
	var all []byte
	for x := range 256 {
		all = append(all, byte(x))
	}
	checkAll(t, nil, all, 2)
	checkAll(t, []byte{1, 1, 1, 1, 0, 0}, all, 2)
	checkAll(t, []byte{2, 1, 1, 2, 0, 0, 5, 1, 2, 'a'}, all, 2)
	checkAll(t, []byte{1, 1, 1, 5, 0, 0}, []byte{0, 1, 2, 3, 4, 0x11, 0x10, 248}, 5)
	checkAll(t, []byte{2, 1, 1, 2, 0, 0}, []byte{0, 1, 2, 3, 5, 6, 254, 255}, 5)
}

// P11.2: the inverse.

func TestTakeUndoesPut(t *testing.T) {
	r := source()
	for _, lines := range granules(r) {
		b, e := texts.Put(nil, rows(lines))
		if e != api.OK {
			t.Fatalf("Put(%.80q of %d lines): error %d", lines, len(lines), e)
		}
		for _, behind := range [][]byte{nil, {0}, {1}, {255}, b, someBytes(r, 50), make([]byte, 600)} {
			checkTake(t, slices.Concat(b, behind), lines, len(b), api.OK)
		}
	}
}

// Lines are kept as they are cut, also those without bytes.
func TestEachWayToCut(t *testing.T) {
	for _, text := range []string{"abcab", "\x00\x00\x00", square} {
		for i := range len(text) + 1 {
			for j := i; j <= len(text); j++ {
				lines := []string{text[:i], text[i:j], text[j:]}
				b, e := texts.Put(nil, rows(lines))
				if e != api.OK {
					t.Fatalf("Put(%q): error %d", lines, e)
				}
				checkLines(t, b, lines)
			}
		}
	}
}

// Granules one behind the other are read one by one.
func TestGranulesInARow(t *testing.T) {
	r := source()
	list := granules(r)[:150]
	var b []byte
	for _, lines := range list {
		out, e := texts.Put(b, rows(lines))
		if e != api.OK {
			t.Fatalf("Put(%.80q of %d lines): error %d", lines, len(lines), e)
		}
		b = out
	}
	for _, lines := range list {
		size := len(handPut(lines))
		checkTake(t, b, lines, size, api.OK)
		b = b[size:]
	}
	checkNoGranule(t, b)
}

// P1: arguments may be large and stay as they were, results are new memory, and no state is kept.

// The greatest granules: those that can be made short, and those that can't.
func TestGreatGranules(t *testing.T) {
	r := source()
	var words []string
	for range 256 {
		words = append(words, string(someBytes(r, 3)))
	}
	var few strings.Builder
	for few.Len() < 65536 {
		few.WriteString(words[r.Intn(8)])
	}
	for _, line := range []string{strings.Repeat("a", 65536), string(someBytes(r, 65536)), few.String()[:65536]} {
		lines := slices.Repeat([]string{line}, 16)
		checkPut(t, nil, lines, handPut(lines), api.OK)
		checkTake(t, handPut(lines), lines, len(handPut(lines)), api.OK)
	}
	var lines []string
	for range 16 {
		lines = append(lines, string(someBytes(r, 65536)))
	}
	checkPut(t, nil, lines, handPut(lines), api.OK)
	checkTake(t, handPut(lines), lines, len(handPut(lines)), api.OK)
}

// Any number of bytes may stand ahead of a granule, behind it, or behind what is none.
func TestManyBytes(t *testing.T) {
	many := bytes.Repeat([]byte{1, 1, 1, 3}, 1<<20)
	b := []byte{1, 1, 1, 3, 0, 0, 4, 0x30, 'a', 'b', 'c'}
	checkTake(t, slices.Concat(b, many), []string{"abc"}, len(b), api.OK)
	checkTake(t, many, nil, 0, api.ErrForm)
	checkTake(t, append([]byte{1, 1, 1, 3, 0, 0}, num.PutRow(nil, many)...), nil, 0, api.ErrForm)
	checkTake(t, append([]byte{2, 1, 1, 3, 0, 0}, num.PutRow(nil, many)...), nil, 0, api.ErrForm)
	checkPut(t, many, []string{"abc"}, slices.Concat(many, b), api.OK)
}

// A few bytes may stand for very many; they are refused before so many are made.
func TestTakeOfHugeTexts(t *testing.T) {
	huge := slices.Concat([]byte{0x1f, 'a', 1, 0}, bytes.Repeat([]byte{255}, 1<<20), []byte{0, 0})
	for _, lengths := range [][]uint64{{0}, {1}, {65536}, slices.Repeat([]uint64{65536}, 16)} {
		checkTake(t, raw(1, lengths, huge), nil, 0, api.ErrForm)
	}
}

// withSpare returns the list in the middle of more memory, and all of that memory.
func withSpare[T any](list []T, mark T) (arg, all []T) {
	marks := slices.Repeat([]T{mark}, 40)
	all = slices.Concat(marks, list, marks)
	return all[len(marks) : len(marks)+len(list)], all
}

// overwrite replaces all bytes, those of the spare capacity too.
func overwrite(b []byte, x byte) {
	b = b[:cap(b)]
	for i := range b {
		b[i] = x
	}
}

// laidOut returns lines that stand one behind the other in one piece of memory, each with spare capacity that reaches into the next ones, and that memory.
func laidOut(lines []string) (list [][]byte, all []byte) {
	text, all := withSpare([]byte(strings.Join(lines, "")), 0x5a)
	for _, line := range lines {
		list = append(list, text[:len(line)])
		text = text[len(line):]
	}
	return list, all
}

func TestArgumentsStay(t *testing.T) {
	r := source()
	more := [][]string{nil, slices.Repeat([]string{"ab"}, 17), {"ab", strings.Repeat("a", 65537)}}
	for _, lines := range append(granules(r), more...) {
		b, allB := withSpare(someBytes(r, r.Intn(30)), 0x5a)
		l, allL := laidOut(lines)
		arg, allArg := withSpare(l, []byte("spare"))
		beforeB, beforeL, beforeArg := slices.Clone(allB), slices.Clone(allL), slices.Clone(allArg)
		texts.Put(b, arg)
		texts.Put(b[:0], arg)
		if !bytes.Equal(allB, beforeB) || !bytes.Equal(allL, beforeL) || !slices.EqualFunc(allArg, beforeArg, bytes.Equal) {
			t.Errorf("%.80q: the memory of an argument was changed", lines)
		}
	}
	for _, lines := range granules(r) {
		for i, payload := range handPayloads(lines) {
			encoding := raw(byte(1+i), lens(lines), payload)
			for _, e := range [][]byte{encoding, encoding[1:], encoding[:len(encoding)/2], someBytes(r, 20)} {
				b, all := withSpare(e, 0x5a)
				before := slices.Clone(all)
				texts.Take(b)
				if !bytes.Equal(all, before) {
					t.Errorf("%.60x: the memory of the argument was changed", e)
				}
			}
		}
	}
}

// What stands in the spare capacity, and ahead of the argument, is no part of it.
func TestSpareCapacityIsNotRead(t *testing.T) {
	r := source()
	for _, lines := range granules(r) {
		l, _ := laidOut(lines)
		arg, _ := withSpare(l, []byte("spare"))
		if b, e := texts.Put(nil, arg); !bytes.Equal(b, handPut(lines)) || e != api.OK {
			t.Errorf("Put(%.80q) = %.60x, error %d", lines, b, e)
		}
		b, _ := withSpare(handPut(lines), 0)
		checkTake(t, b, lines, len(b), api.OK)
		for range 3 {
			checkTake(t, b[:r.Intn(len(b))], nil, 0, api.ErrForm)
		}
	}
	checkPut(t, []byte{9, 8, 7}[:1], []string{""}, []byte{9, 1, 1, 1, 0, 0, 0, 1, 0}, api.OK)
}

func TestPutReturnsNewMemory(t *testing.T) {
	r := source()
	for _, lines := range granules(r) {
		for _, ahead := range [][]byte{nil, {1}, someBytes(r, 50)} {
			b, allB := withSpare(ahead, 0x11)
			l, allL := laidOut(lines)
			beforeB, beforeL := slices.Clone(allB), slices.Clone(allL)
			one, _ := texts.Put(b, l)
			two, _ := texts.Put(b, l)
			want := slices.Clone(one)
			overwrite(one, 0x22)
			if !bytes.Equal(allB, beforeB) || !bytes.Equal(allL, beforeL) || !bytes.Equal(two, want) {
				t.Errorf("Put(%x, %.80q): the result shares memory", ahead, lines)
			}
			overwrite(allB, 0x33)
			overwrite(allL, 0x33)
			if !bytes.Equal(two, want) {
				t.Errorf("Put(%x, %.80q): a changed argument changed the result", ahead, lines)
			}
		}
	}
}

func TestTakeReturnsNewMemory(t *testing.T) {
	r := source()
	for _, lines := range granules(r) {
		for i, payload := range handPayloads(lines) {
			b, all := withSpare(raw(byte(1+i), lens(lines), payload), 0x11)
			before := slices.Clone(all)
			one, _, _ := texts.Take(b)
			two, _, _ := texts.Take(b)
			for i, line := range one { // each line has memory of its own
				overwrite(line, 0x22)
				if !slices.EqualFunc(one[i+1:], rows(lines[i+1:]), bytes.Equal) {
					t.Errorf("Take(%.60x): line %d shares memory with another", b, i)
				}
			}
			for i := len(two) - 1; i > 0; i-- {
				overwrite(two[i], 0x22)
				if !slices.EqualFunc(two[:i], rows(lines[:i]), bytes.Equal) {
					t.Errorf("Take(%.60x): line %d shares memory with another", b, i)
				}
			}
			three, _, _ := texts.Take(b)
			if !bytes.Equal(all, before) || !slices.EqualFunc(three, rows(lines), bytes.Equal) {
				t.Errorf("Take(%.60x): a result shares memory", b)
			}
			overwrite(all, 0x33)
			if !slices.EqualFunc(three, rows(lines), bytes.Equal) {
				t.Errorf("Take(%.60x): a changed argument changed the result", b)
			}
		}
	}
}

func TestNoStateIsKept(t *testing.T) {
	b := []byte{1, 1, 1, 3, 0, 0, 4, 0x30, 'a', 'b', 'c'}
	for range 3 {
		checkPut(t, nil, []string{"abc"}, b, api.OK)
		checkPut(t, []byte{9}, []string{square}, append([]byte{9}, handPut([]string{square})...), api.OK)
		checkPut(t, nil, nil, nil, api.ErrArg)
		checkPut(t, nil, []string{strings.Repeat("a", 65537)}, nil, api.ErrLong)
		checkTake(t, b, []string{"abc"}, 11, api.OK)
		checkTake(t, b[1:], nil, 0, api.ErrForm)
		checkLines(t, handPut([]string{square}), []string{square})
		checkTake(t, nil, nil, 0, api.ErrForm)
	}
}
