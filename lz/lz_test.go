package lz_test

import (
	"bytes"
	"math"
	"math/rand"
	"slices"
	"sort"
	"strings"
	"testing"

	"dragnet/api"
	"dragnet/lz"
)

// The helpers below follow the chapter's definitions by other means than the package does.

// part is a part as it is meant; a last part has the length 0.
type part struct {
	literals         []byte
	distance, length int
}

// half returns what half a byte tells of a count, and the extension behind it.
func half(n int) (byte, []byte) {
	if n < 15 {
		return byte(n), nil
	}
	return 15, append(bytes.Repeat([]byte{255}, (n-15)/255), byte((n-15)%255))
}

// written lays parts one behind the other, right or wrong.
func written(parts ...part) []byte {
	var b []byte
	for _, p := range parts {
		a, more := half(len(p.literals))
		if p.length == 0 {
			b = slices.Concat(b, []byte{16 * a}, more, p.literals)
			continue
		}
		m, tail := half(p.length - 4)
		b = slices.Concat(b, []byte{16*a + m}, more, p.literals, []byte{byte(p.distance % 256), byte(p.distance / 256)}, tail)
	}
	return b
}

// meant returns the bytes that parts stand for, one by one.
func meant(parts ...part) []byte {
	var b []byte
	for _, p := range parts {
		b = append(b, p.literals...)
		for range p.length {
			b = append(b, b[len(b)-p.distance])
		}
	}
	return b
}

// partsOf are the parts of b, found by looking at all the positions of the same four bytes.
func partsOf(b []byte) []part {
	stand := map[[4]byte][]int{}
	for i := 0; i+4 <= len(b); i++ {
		stand[[4]byte(b[i:])] = append(stand[[4]byte(b[i:])], i)
	}
	var parts []part
	start, i := 0, 0
	for i+4 <= len(b) {
		places := stand[[4]byte(b[i:])]
		k := sort.SearchInts(places, i) - 1
		if k < 0 || i-places[k] > 65535 {
			i++
			continue
		}
		from, end := places[k], i
		for end < len(b) && b[end] == b[end-i+from] {
			end++
		}
		parts = append(parts, part{b[start:i], i - from, end - i})
		start, i = end, end
	}
	return append(parts, part{b[start:], 0, 0})
}

// partsBySearch are the parts of b, found by going back from each position, step by step.
func partsBySearch(b []byte) []part {
	var parts []part
	start := 0
next:
	for i := 0; i < len(b)-3; i++ {
		for distance := 1; distance <= i && distance <= 65535; distance++ {
			length := 0
			for i+length < len(b) && b[i+length] == b[i+length-distance] {
				length++
			}
			if length >= 4 {
				parts = append(parts, part{b[start:i], distance, length})
				start = i + length
				i = start - 1
				continue next
			}
		}
	}
	return append(parts, part{b[start:], 0, 0})
}

// reader reads packed bytes from their beginning; the first fault that it meets stays.
type reader struct {
	b, out []byte
	at     int
	most   int
	e      api.Errno
}

func (r *reader) next() byte {
	if r.at >= len(r.b) && r.e == api.OK {
		r.e = api.ErrForm
	}
	if r.e != api.OK {
		return 0
	}
	r.at++
	return r.b[r.at-1]
}

// count reads what follows half a byte; n is what is added to it.
func (r *reader) count(h byte, n int) int {
	n += int(h)
	if h == 15 {
		x := r.next()
		for ; x == 255; x = r.next() {
			n += 255
		}
		n += int(x)
	}
	if r.e == api.OK && n > r.most-len(r.out) {
		r.e = api.ErrLong
	}
	return n
}

// handUnpack reads byte by byte, in the order of the chapter.
func handUnpack(b []byte, most int) ([]byte, api.Errno) {
	if most < 0 {
		return nil, api.ErrArg
	}
	r := reader{b: b, most: most}
	for r.e == api.OK {
		head := r.next()
		literals := r.count(head/16, 0)
		for i := 0; i < literals && r.e == api.OK; i++ {
			r.out = append(r.out, r.next())
		}
		if r.e == api.OK && r.at == len(b) {
			if head%16 == 0 {
				return r.out, api.OK
			}
			r.e = api.ErrForm
		}
		distance := int(r.next()) + 256*int(r.next())
		if r.e == api.OK && (distance == 0 || distance > len(r.out)) {
			r.e = api.ErrForm
		}
		length := r.count(head%16, 4)
		for i := 0; i < length && r.e == api.OK; i++ {
			r.out = append(r.out, r.out[len(r.out)-distance])
		}
	}
	return nil, r.e
}

// bytes of many kinds

func source() *rand.Rand {
	return rand.New(rand.NewSource(1))
}

func someBytes(r *rand.Rand, n int) []byte {
	b := make([]byte, n)
	r.Read(b)
	return b
}

// distinct returns up to 65536 bytes in which no two neighbours stand twice, not even across the end of all of them.
func distinct(n int) []byte {
	var b []byte
	for x := 0; len(b) < n; x++ {
		b = append(b, byte(x))
		for y := x + 1; y < 256; y++ {
			b = append(b, byte(x), byte(y))
		}
	}
	return b[:n:n]
}

// someText returns n bytes of which some repeat: of few kinds, or with pieces from before.
func someText(r *rand.Rand, n int) []byte {
	kinds, odds := 1+r.Intn(8), r.Intn(12)
	if r.Intn(4) == 0 {
		kinds = 256
	}
	var b []byte
	for len(b) < n {
		if len(b) == 0 || r.Intn(12) >= odds {
			b = append(b, byte(r.Intn(kinds)))
			continue
		}
		distance := 1 + r.Intn(len(b))
		for range 1 + r.Intn(1<<r.Intn(10)) {
			b = append(b, b[len(b)-distance])
		}
	}
	return b[:n]
}

// someParts are parts that stand for something, though Pack would hardly write them so.
func someParts(r *rand.Rand) []part {
	var parts []part
	size := 0
	for range r.Intn(6) {
		p := part{literals: someBytes(r, r.Intn(1<<r.Intn(7)))}
		size += len(p.literals)
		if size == 0 {
			continue
		}
		p.distance, p.length = 1+r.Intn(min(size, 65535)), 4+r.Intn(1<<r.Intn(9))
		size += p.length
		parts = append(parts, p)
	}
	return append(parts, part{literals: someBytes(r, r.Intn(40))})
}

func checkPack(t *testing.T, b, want []byte) {
	t.Helper()
	if got := lz.Pack(b); !bytes.Equal(got, want) {
		t.Errorf("Pack(%.60x of %d bytes) = %.60x of %d bytes; want %.60x of %d bytes", b, len(b), got, len(got), want, len(want))
	}
}

func checkUnpack(t *testing.T, b []byte, most int, want []byte, e api.Errno) {
	t.Helper()
	got, gotE := lz.Unpack(b, most)
	if !bytes.Equal(got, want) || gotE != e {
		t.Errorf("Unpack(%.60x of %d bytes, %d) = %.60x of %d bytes, error %d; want %.60x of %d bytes, error %d",
			b, len(b), most, got, len(got), gotE, want, len(want), e)
	}
}

// checkAnyUnpack holds Unpack against the definition.
func checkAnyUnpack(t *testing.T, b []byte, most int) api.Errno {
	t.Helper()
	want, e := handUnpack(b, most)
	checkUnpack(t, b, most, want, e)
	return e
}

// checkBounds unpacks b, which stands for want, with bounds of all kinds.
func checkBounds(t *testing.T, b, want []byte) {
	t.Helper()
	n := len(want)
	for _, most := range []int{n, n + 1, n + 1000, math.MaxInt - 1, math.MaxInt} {
		checkUnpack(t, b, most, want, api.OK)
	}
	for _, most := range []int{0, 1, 3, 4, n / 2, n - 5, n - 4, n - 2, n - 1} {
		if most >= 0 && most < n {
			checkUnpack(t, b, most, nil, api.ErrLong)
		}
	}
	for _, most := range []int{-1, -2, -n - 1, math.MinInt} {
		checkUnpack(t, b, most, nil, api.ErrArg)
	}
}

// checkParts packs b, which must lead to the parts, and unpacks them.
func checkParts(t *testing.T, b []byte, parts ...part) {
	t.Helper()
	if !bytes.Equal(meant(parts...), b) {
		t.Errorf("the parts do not stand for %.60x", b)
	}
	checkPack(t, b, written(parts...))
	checkBounds(t, written(parts...), b)
}

// P5.1: Pack.

func TestKnownPacks(t *testing.T) {
	cases := []struct {
		b string
		p []byte
	}{
		{"", []byte{0}},
		{"a", []byte{0x10, 'a'}},
		{"ab", []byte{0x20, 'a', 'b'}},
		{"abc", []byte{0x30, 'a', 'b', 'c'}},
		{"abcd", []byte{0x40, 'a', 'b', 'c', 'd'}},
		{"aa", []byte{0x20, 'a', 'a'}},
		{"aaa", []byte{0x30, 'a', 'a', 'a'}},
		{"aaaa", []byte{0x40, 'a', 'a', 'a', 'a'}},
		{"aaaaa", []byte{0x10, 'a', 1, 0, 0}},
		{"aaaaaa", []byte{0x11, 'a', 1, 0, 0}},
		{"aaaab", []byte{0x50, 'a', 'a', 'a', 'a', 'b'}},
		{"aaaaab", []byte{0x10, 'a', 1, 0, 0x10, 'b'}},
		{"abcabcabc", []byte{0x32, 'a', 'b', 'c', 3, 0, 0}},
		{"abcabcab", []byte{0x31, 'a', 'b', 'c', 3, 0, 0}},
		{"abcabca", []byte{0x30, 'a', 'b', 'c', 3, 0, 0}},
		{"abcabc", []byte{0x60, 'a', 'b', 'c', 'a', 'b', 'c'}},
		{"abcdabcd", []byte{0x40, 'a', 'b', 'c', 'd', 4, 0, 0}},
		{"abcdxabcd", []byte{0x50, 'a', 'b', 'c', 'd', 'x', 5, 0, 0}},
		{"abcdxabcdy", []byte{0x50, 'a', 'b', 'c', 'd', 'x', 5, 0, 0x10, 'y'}},
		{"abcdabcdabcd", []byte{0x44, 'a', 'b', 'c', 'd', 4, 0, 0}},
		{"abcdabcxabcdabcx", []byte{0x84, 'a', 'b', 'c', 'd', 'a', 'b', 'c', 'x', 8, 0, 0}},
		{strings.Repeat("x", 25), []byte{0x1f, 'x', 1, 0, 5, 0}},
	}
	for _, c := range cases {
		checkPack(t, []byte(c.b), c.p)
		checkBounds(t, c.p, []byte(c.b))
	}
	checkPack(t, nil, []byte{0})
}

// Where the number of literals does not fit into half a byte, or its extension grows.
func TestNumbersOfLiterals(t *testing.T) {
	tails := map[int][]byte{0: {}, 14: {}, 15: {0}, 16: {1}, 269: {254}, 270: {255, 0}, 271: {255, 1}, 524: {255, 254}, 525: {255, 255, 0}, 526: {255, 255, 1}}
	for n, extension := range tails {
		literals := distinct(n)
		a := byte(min(n, 15))
		checkPack(t, literals, slices.Concat([]byte{16 * a}, extension, literals))
		checkBounds(t, slices.Concat([]byte{16 * a}, extension, literals), literals)
		if n == 0 {
			continue
		}
		b := slices.Concat(literals, bytes.Repeat(literals[n-1:], 5)) // the last literal, five times more
		checkPack(t, b, slices.Concat([]byte{16*a + 1}, extension, literals, []byte{1, 0, 0}))
		checkBounds(t, slices.Concat([]byte{16*a + 1}, extension, literals, []byte{1, 0, 0}), b)
	}
	for n := range 1100 {
		checkParts(t, distinct(n), part{literals: distinct(n)})
	}
}

// The same literals behind a part.
func TestNumbersOfLiteralsInALaterPart(t *testing.T) {
	for _, n := range []int{0, 1, 2, 3, 4, 14, 15, 16, 269, 270, 271, 524, 525, 526, 5000} {
		head := bytes.Repeat([]byte{255}, 6)
		literals := distinct(n)
		b := slices.Concat(head, literals)
		checkParts(t, b, part{head[:1], 1, 5}, part{literals: literals})
	}
}

// Where the length does not fit into half a byte, or its extension grows.
func TestLengths(t *testing.T) {
	tails := map[int][]byte{4: {}, 5: {}, 17: {}, 18: {}, 19: {0}, 20: {1}, 273: {254}, 274: {255, 0}, 275: {255, 1}, 528: {255, 254}, 529: {255, 255, 0}, 530: {255, 255, 1}}
	for n, extension := range tails {
		m := byte(min(n-4, 15))
		alike := bytes.Repeat([]byte{7}, n+1)
		checkPack(t, alike, slices.Concat([]byte{16 + m, 7, 1, 0}, extension, []byte{0}))
		checkBounds(t, slices.Concat([]byte{16 + m, 7, 1, 0}, extension, []byte{0}), alike)
		checkParts(t, append(alike, 8), part{[]byte{7}, 1, n}, part{literals: []byte{8}})
	}
	for n := 4; n < 1100; n++ {
		head := distinct(n)
		checkParts(t, slices.Concat(head, []byte{255}, head), part{append(distinct(n), 255), n + 1, n}, part{})
		checkParts(t, slices.Concat(head, []byte{255}, head, []byte{254}), part{append(distinct(n), 255), n + 1, n}, part{literals: []byte{254}})
		checkParts(t, slices.Concat(head, head), part{head, n, n}, part{})
	}
}

func TestDistances(t *testing.T) {
	for _, n := range []int{4, 5, 6, 255, 256, 257, 511, 512, 65279, 65280, 65281, 65533, 65534, 65535} {
		head := distinct(n)
		again := head[:4]
		checkParts(t, slices.Concat(head, again), part{head, n, 4}, part{})
		checkParts(t, slices.Concat(head, again, []byte{255}), part{head, n, 4}, part{literals: []byte{255}})
	}
	far := distinct(65536)
	for n := 1; n <= 60; n++ { // at each position, the same bytes stand too far away
		checkParts(t, slices.Concat(far, far[:n]), part{literals: slices.Concat(far, far[:n])})
	}
	near := slices.Concat([]byte{255, 254, 253}, far[:65535]) // the same, but not from the first byte on
	checkParts(t, slices.Concat(near, far[:9]), part{near, 65535, 9}, part{})
	late := slices.Concat([]byte{255, 254, 253}, far)
	checkParts(t, slices.Concat(late, far[:9]), part{literals: slices.Concat(late, far[:9])})
}

// The bytes of a part may reach as far back as its distance allows, from the first one to the last.
func TestALongPartAtTheGreatestDistance(t *testing.T) {
	for _, n := range []int{65534, 65535} {
		head := distinct(n)
		b := slices.Concat(head, head, head, head[:100])
		checkParts(t, b, part{head, n, len(b) - n}, part{})
	}
}

// A position too far away is forgotten, but not the same four bytes at a later one.
func TestALaterPositionIsReached(t *testing.T) {
	far := distinct(65536)
	quad := []byte{255, 0, 254, 1} // nowhere in far
	for _, gap := range []int{4, 6, 100, 30000, 65530, 65531} {
		literals, rest := slices.Concat(quad, far[:gap]), far[gap:65531]
		b := slices.Concat(literals, quad, rest, quad)
		checkParts(t, b, part{literals, gap + 4, 4}, part{rest, len(rest) + 4, 4}, part{})
	}
	literals := slices.Concat(quad, far[:65532], quad, far[:65531]) // the second quad is too far from the first one
	checkParts(t, slices.Concat(literals, quad), part{literals, 65535, 4}, part{})
}

func TestPartsThatOverlapThemselves(t *testing.T) {
	for distance := 1; distance <= 40; distance++ {
		head := distinct(distance + 1)[1:]
		for length := 4; length <= 300; length += 1 + length/9 {
			b := meant(part{head, distance, length})
			checkParts(t, b, part{head, distance, length}, part{})
			checkParts(t, append(b, 255), part{head, distance, length}, part{literals: []byte{255}})
		}
	}
}

// Of several earlier positions, the last one is taken, even where another would lead to more bytes.
func TestTheLastPositionIsTaken(t *testing.T) {
	cases := []struct {
		b     string
		parts []part
	}{
		{"abcdefghabcdxabcdefgh", []part{{[]byte("abcdefgh"), 8, 4}, {[]byte("x"), 5, 4}, {[]byte(""), 13, 4}, {}}},
		{"abcd1abcd2abcd", []part{{[]byte("abcd1"), 5, 4}, {[]byte("2"), 5, 4}, {}}},
		{"abcd1abcd2abcd1", []part{{[]byte("abcd1"), 5, 4}, {[]byte("2"), 5, 4}, {[]byte("1"), 0, 0}}},
		{"abababab", []part{{[]byte("ab"), 2, 6}, {}}},
		{"aaaabaaaabaaaab", []part{{[]byte("aaaab"), 5, 10}, {}}},
		{"aaaaabaaaaab", []part{{[]byte("a"), 1, 4}, {[]byte("b"), 5, 4}, {[]byte("ab"), 0, 0}}},
	}
	for _, c := range cases {
		checkParts(t, []byte(c.b), c.parts...)
	}
}

// Positions within the bytes of a part, its first and its last ones too, are earlier positions for what follows.
func TestPositionsWithinAPart(t *testing.T) {
	head := []byte("abcdefghijkl-")
	for at := range 12 {
		b := slices.Concat(head, head[:12], []byte("+123")) // the part has 12 bytes, from the position 13 on
		four := b[13+at : 13+at+4]
		want := []part{{head, 13, 12}, {[]byte("+123"), 16 - at, 4}, {literals: []byte{'!'}}}
		checkParts(t, slices.Concat(b, four, []byte{'!'}), want...)
	}
}

func TestPacksFollowTheDefinition(t *testing.T) {
	r := source()
	for range 4000 {
		b := someText(r, r.Intn(1<<r.Intn(10)))
		parts := partsBySearch(b)
		checkPack(t, b, written(parts...))
		checkUnpack(t, written(parts...), len(b), b, api.OK)
		checkPack(t, b, written(partsOf(b)...))
	}
	for range 16 {
		b := someText(r, r.Intn(200000))
		want := written(partsOf(b)...)
		checkPack(t, b, want)
		checkUnpack(t, want, len(b), b, api.OK)
	}
}

// Every string over two bytes, and over three, up to some lengths.
func TestAllShortStrings(t *testing.T) {
	for _, kinds := range []int{2, 3} {
		all := [][]byte{{}}
		for n := 0; n <= 28/kinds; n++ {
			var longer [][]byte
			for _, b := range all {
				checkPack(t, b, written(partsBySearch(b)...))
				for x := range kinds {
					longer = append(longer, append(slices.Clone(b), byte(x)))
				}
			}
			all = longer
		}
	}
}

// P5.1: Unpack.

func TestKnownUnpacks(t *testing.T) {
	long := bytes.Repeat([]byte{'x'}, 275)
	cases := []struct {
		b    []byte
		most int
		want []byte
		e    api.Errno
	}{
		{[]byte{0}, 0, nil, api.OK},
		{[]byte{0x10, 'a', 1, 0, 0}, 5, []byte("aaaaa"), api.OK},
		{[]byte{0x10, 'a', 1, 0, 0x10, 'b'}, 6, []byte("aaaaab"), api.OK},
		{slices.Concat([]byte{0xf0, 255, 5}, long), 275, long, api.OK},
		{[]byte{0x1f, 'x', 1, 0, 255, 0, 0}, 275, long, api.OK},
		// No parts that Pack would produce.
		{[]byte{0x10, 'a', 1, 0, 0, 1, 0, 0}, 9, []byte("aaaaaaaaa"), api.OK},
		{[]byte{0x10, 'a', 1, 0, 0, 5, 0, 0x10, 'b'}, 10, []byte("aaaaaaaaab"), api.OK},
		{[]byte{0x50, 'a', 'b', 'c', 'd', 'e', 2, 0, 0}, 9, []byte("abcdedede"), api.OK},
		{[]byte{0x80, 'a', 'a', 'a', 'a', 'a', 'a', 'a', 'a'}, 8, []byte("aaaaaaaa"), api.OK},
		{[]byte{0x50, 'a', 'b', 'c', 'd', 'e', 5, 0, 0x40, 'a', 'b', 'c', 'd'}, 13, []byte("abcdeabcdabcd"), api.OK},
		// A part that ends too early.
		{nil, 9, nil, api.ErrForm},
		{[]byte{0x10}, 9, nil, api.ErrForm},
		{[]byte{0x20, 'a'}, 9, nil, api.ErrForm},
		{[]byte{0xf0}, 99, nil, api.ErrForm},
		{[]byte{0xf0, 255}, 999, nil, api.ErrForm},
		{[]byte{0xf0, 0}, 99, nil, api.ErrForm},
		{[]byte{0, 0}, 9, nil, api.ErrForm},
		{[]byte{0x10, 'a', 1}, 9, nil, api.ErrForm},
		{[]byte{0x10, 'a', 1, 0}, 9, nil, api.ErrForm},
		{[]byte{0x1f, 'a', 1, 0}, 99, nil, api.ErrForm},
		{[]byte{0x1f, 'a', 1, 0, 255}, 999, nil, api.ErrForm},
		{[]byte{0x1f, 'a', 1, 0, 7}, 99, nil, api.ErrForm},
		// A distance of 0, and one that reaches too far.
		{[]byte{0x10, 'a', 0, 0, 0}, 9, nil, api.ErrForm},
		{[]byte{0x10, 'a', 2, 0, 0}, 9, nil, api.ErrForm},
		{[]byte{0x10, 'a', 0, 1, 0}, 9, nil, api.ErrForm},
		{[]byte{0x10, 'a', 1, 1, 0}, 9, nil, api.ErrForm},
		{[]byte{0, 1, 0, 0}, 9, nil, api.ErrForm},
		{[]byte{0x10, 'a', 1, 0, 0, 6, 0, 0}, 99, nil, api.ErrForm},
		// A last part with m other than 0.
		{[]byte{1}, 9, nil, api.ErrForm},
		{[]byte{0x0f}, 9, nil, api.ErrForm},
		{[]byte{0x11, 'a'}, 9, nil, api.ErrForm},
		{[]byte{0x1f, 'a'}, 9, nil, api.ErrForm},
		{[]byte{0x10, 'a', 1, 0, 0x21, 'a', 'a'}, 9, nil, api.ErrForm},
		// Too many bytes.
		{[]byte{0x10, 'a'}, 0, nil, api.ErrLong},
		{[]byte{0x10, 'a', 1, 0, 0}, 4, nil, api.ErrLong},
		{[]byte{0x10, 'a', 1, 0, 0}, 0, nil, api.ErrLong},
		{[]byte{0x10, 'a', 1, 0, 0x10, 'a'}, 5, nil, api.ErrLong},
		{[]byte{0x1f, 'a', 1, 0, 0, 0}, 19, nil, api.ErrLong},
	}
	for _, c := range cases {
		checkUnpack(t, c.b, c.most, c.want, c.e)
		checkAnyUnpack(t, c.b, c.most)
		checkUnpack(t, c.b, -1, nil, api.ErrArg)
	}
}

// The error that occurs first in reading order is returned.
func TestOrderOfErrors(t *testing.T) {
	cases := []struct {
		name string
		b    []byte
		most int
		e    api.Errno
	}{
		{"most ahead of all", []byte{0x10}, -1, api.ErrArg},
		{"most ahead of no bytes", nil, math.MinInt, api.ErrArg},
		{"too many literals ahead of missing ones", []byte{0x20, 'a'}, 1, api.ErrLong},
		{"too many literals ahead of no literal at all", []byte{0x20}, 1, api.ErrLong},
		{"too many extended literals ahead of missing ones", []byte{0xf0, 0}, 14, api.ErrLong},
		{"missing literals, not too many", []byte{0xf0, 0}, 15, api.ErrForm},
		{"too many literals behind a part ahead of missing ones", []byte{0x10, 'a', 1, 0, 0x20, 'a'}, 6, api.ErrLong},
		{"missing literals behind a part", []byte{0x10, 'a', 1, 0, 0x20, 'a'}, 7, api.ErrForm},
		{"too many literals ahead of a wrong last part", []byte{0x11, 'a'}, 0, api.ErrLong},
		{"a wrong last part with enough room", []byte{0x11, 'a'}, 1, api.ErrForm},
		{"too many literals ahead of a wrong distance", []byte{0x20, 'a', 'a', 0, 0, 0}, 1, api.ErrLong},
		{"a wrong distance ahead of a length that is too great", []byte{0x10, 'a', 0, 0, 0}, 1, api.ErrForm},
		{"a far distance ahead of a length that is too great", []byte{0x10, 'a', 2, 0, 0}, 1, api.ErrForm},
		{"half a distance ahead of a length that is too great", []byte{0x10, 'a', 1}, 1, api.ErrForm},
		{"a wrong distance ahead of an extension without end", []byte{0x1f, 'a', 0, 0, 255}, 1, api.ErrForm},
		{"a length that is too great ahead of no last part", []byte{0x10, 'a', 1, 0}, 4, api.ErrLong},
		{"no last part with enough room", []byte{0x10, 'a', 1, 0}, 5, api.ErrForm},
		{"a length that is too great ahead of a wrong part", []byte{0x10, 'a', 1, 0, 1}, 4, api.ErrLong},
		{"an extended length that is too great ahead of no last part", []byte{0x1f, 'a', 1, 0, 0}, 19, api.ErrLong},
		{"an extended length with enough room and no last part", []byte{0x1f, 'a', 1, 0, 0}, 20, api.ErrForm},
		{"literals without end of their extension", []byte{0xf0, 255, 255}, 0, api.ErrForm},
		{"literals without an extension", []byte{0xff}, 0, api.ErrForm},
		{"a length without end of its extension", []byte{0x1f, 'a', 1, 0, 255}, 1, api.ErrForm},
		{"a length without an extension", []byte{0x1f, 'a', 1, 0}, 1, api.ErrForm},
		{"a length whose extension ends", []byte{0x1f, 'a', 1, 0, 255, 0}, 1, api.ErrLong},
		{"no bytes", nil, 0, api.ErrForm},
	}
	for _, c := range cases {
		if _, e := lz.Unpack(c.b, c.most); e != c.e {
			t.Errorf("%s: Unpack(%x, %d) answers the error %d; want %d", c.name, c.b, c.most, e, c.e)
		}
		checkUnpack(t, c.b, c.most, nil, c.e)
		checkAnyUnpack(t, c.b, c.most)
	}
}

func TestExtensionsWithoutEnd(t *testing.T) {
	for _, n := range []int{0, 1, 2, 10, 300, 100000} {
		endless := bytes.Repeat([]byte{255}, n)
		literals := slices.Concat([]byte{0xf0}, endless)
		length := slices.Concat([]byte{0x1f, 'a', 1, 0}, endless)
		for _, most := range []int{1, 15, 255, 270, 1000, 255*n + 1, math.MaxInt} {
			checkUnpack(t, literals, most, nil, api.ErrForm)
			checkUnpack(t, length, most, nil, api.ErrForm)
		}
		checkUnpack(t, literals, 0, nil, api.ErrForm)
		checkUnpack(t, length, 0, nil, api.ErrLong) // of the literal ahead
		most := 15 + 255*n
		checkUnpack(t, append(literals, 0), most, nil, api.ErrForm) // the extension ends, and there are no literals
		checkUnpack(t, append(literals, 0), most-1, nil, api.ErrLong)
		checkUnpack(t, append(length, 0), most+5, nil, api.ErrForm) // the extension ends, and there is no last part
		checkUnpack(t, append(length, 0), most+4, nil, api.ErrLong)
	}
}

// Parts that Pack would not produce stand for bytes, too.
func TestAnySequenceOfParts(t *testing.T) {
	r := source()
	other := 0
	for range 3000 {
		parts := someParts(r)
		b, want := written(parts...), meant(parts...)
		checkBounds(t, b, want)
		if !bytes.Equal(lz.Pack(want), b) {
			other++
		}
	}
	if other < 1000 {
		t.Errorf("only %d sequences differ from those of Pack", other)
	}
	alike := bytes.Repeat([]byte{3}, 66000)
	for _, distance := range []int{1, 2, 3, 255, 256, 32767, 32768, 65534, 65535} {
		for _, length := range []int{4, 18, 19, 20, 273, 274, 275, 70000} {
			checkBounds(t, written(part{alike, distance, length}, part{nil, 65535, 4}, part{}), bytes.Repeat([]byte{3}, 66000+length+4))
		}
	}
}

// A distance reaches back to the first byte of the output, and not beyond it.
func TestEachDistanceBack(t *testing.T) {
	for n := 1; n <= 600; n++ {
		literals := distinct(n)
		for _, distance := range []int{0, 1, n / 2, n - 1, n, n + 1, n + 2, n + 256, 65535} {
			b := written(part{literals, distance, 6}, part{})
			if distance < 1 || distance > n {
				checkUnpack(t, b, 1000, nil, api.ErrForm)
			} else {
				checkUnpack(t, b, 1000, meant(part{literals, distance, 6}), api.OK)
			}
		}
	}
}

// samples are packed bytes of all kinds, which are not many.
func samples(r *rand.Rand) [][]byte {
	list := [][]byte{
		{0},
		written(partsOf([]byte("abcabcabc"))...),
		written(part{literals: distinct(14)}), written(part{literals: distinct(15)}), written(part{literals: distinct(271)}),
		written(part{distinct(3), 3, 18}, part{}), written(part{distinct(3), 3, 19}, part{}), written(part{distinct(3), 3, 275}, part{}),
		written(part{distinct(20), 7, 30}, part{distinct(2), 52, 600}, part{nil, 1, 4}, part{literals: distinct(16)}),
		written(part{distinct(300), 300, 4}, part{literals: []byte{1}}),
	}
	for range 12 {
		list = append(list, written(someParts(r)...))
	}
	return list
}

func TestPackedBytesCutAnywhere(t *testing.T) {
	r := source()
	for _, b := range samples(r) {
		whole, _ := handUnpack(b, 1<<20)
		for i := range b {
			for _, most := range []int{0, 1, len(whole) - 1, len(whole), math.MaxInt} {
				checkAnyUnpack(t, b[:i], most)
			}
		}
	}
	long := slices.Concat(distinct(300), distinct(300), []byte{255})
	packed := lz.Pack(long)
	for i := range packed { // m is not 0, so that no beginning of the only long part is a last part
		checkUnpack(t, packed[:i], 1<<20, nil, api.ErrForm)
	}
}

func TestEachByteChanged(t *testing.T) {
	r := source()
	var seen [15]int
	for _, good := range samples(r) {
		whole, _ := handUnpack(good, 1<<20)
		for i := range good {
			b := slices.Clone(good)
			for x := range 256 {
				b[i] = byte(x)
				seen[checkAnyUnpack(t, b, []int{len(whole), len(whole) + 10, 1 << 20}[x%3])]++
			}
		}
	}
	if seen[api.OK] < 1000 || seen[api.ErrForm] < 1000 || seen[api.ErrLong] < 1000 {
		t.Errorf("changed bytes led to %d results, %d times to ErrForm, %d times to ErrLong", seen[api.OK], seen[api.ErrForm], seen[api.ErrLong])
	}
}

// Every string of up to five bytes out of those that matter, with bounds of all sizes.
func TestUnpackAllShortStrings(t *testing.T) {
	all := [][]byte{{}}
	for n := 0; n <= 5; n++ {
		var longer [][]byte
		for _, b := range all {
			for _, most := range []int{-1, 0, 1, 2, 4, 5, 6, 19, 20, 300, math.MaxInt} {
				checkAnyUnpack(t, b, most)
			}
			for _, x := range []byte{0, 1, 2, 0x0f, 0x10, 0x1f, 0x20, 0xf0, 0xff} {
				longer = append(longer, append(slices.Clone(b), x))
			}
		}
		all = longer
	}
}

func TestUnpackAnyBytes(t *testing.T) {
	r := source()
	for range 60000 {
		b := someBytes(r, r.Intn(1<<r.Intn(8)))
		for i := range b {
			if r.Intn(3) == 0 {
				b[i] = []byte{0, 1, 2, 0x10, 0x1f, 0xf0, 0xff, 0x34}[r.Intn(8)]
			}
		}
		checkAnyUnpack(t, b, r.Intn(1<<r.Intn(12)))
	}
}

// P5.2: the inverse.

func TestUnpackUndoesPack(t *testing.T) {
	r := source()
	for range 2000 {
		b := someText(r, r.Intn(1<<r.Intn(11)))
		checkBounds(t, lz.Pack(b), b)
	}
	for _, n := range []int{65535, 65536, 65537, 131072, 1 << 19} {
		for _, b := range [][]byte{make([]byte, n), someBytes(r, n), someText(r, n), bytes.Repeat([]byte("0123456789"), n/10)} {
			checkBounds(t, lz.Pack(b), b)
		}
	}
}

// With every bound below the number of bytes, Unpack fails.
func TestEachLowerBound(t *testing.T) {
	r := source()
	for range 60 {
		b := someText(r, r.Intn(700))
		p := lz.Pack(b)
		for most := range b {
			checkUnpack(t, p, most, nil, api.ErrLong)
		}
		checkUnpack(t, p, len(b), b, api.OK)
	}
}

// P5.3: bounded expansion.

func checkExpansion(t *testing.T, b []byte) {
	t.Helper()
	if n, p := len(b), len(lz.Pack(b)); p == 0 || p > n+n/255+2 {
		t.Errorf("%d bytes, %.60x, are packed into %d bytes", n, b, p)
	}
}

func TestExpansionIsBounded(t *testing.T) {
	r := source()
	for n := range 2000 {
		checkExpansion(t, distinct(n))
		checkExpansion(t, someBytes(r, n))
		checkExpansion(t, someText(r, n))
		checkExpansion(t, bytes.Repeat([]byte{9}, n))
	}
	for range 300 { // many parts that save little: four bytes, and one or more literals
		head := distinct(200 + r.Intn(200))
		b := slices.Clone(head)
		for range 200 {
			i := r.Intn(len(head) - 4)
			b = slices.Concat(b, head[i:i+4], []byte{byte(128 + r.Intn(100))}, someBytes(r, r.Intn(20)))
		}
		checkExpansion(t, b)
		checkPack(t, b, written(partsOf(b)...))
	}
	for _, n := range []int{65535, 65536, 1 << 20} {
		checkExpansion(t, someBytes(r, n))
	}
}

// Great strings stay possible: a part for millions of bytes, and literals far beyond what a distance reaches.
func TestGreatStrings(t *testing.T) {
	r := source()
	zeros := make([]byte, 1<<22)
	checkParts(t, zeros, part{zeros[:1], 1, 1<<22 - 1}, part{})
	b := someBytes(r, 1<<20)
	checkPack(t, b, written(partsOf(b)...))
	checkBounds(t, lz.Pack(b), b)
}

// P1: arguments stay as they were, results are new memory, and no state is kept.

// withSpare returns b in the middle of more memory, and all of that memory.
func withSpare(b []byte) (arg, all []byte) {
	mark := bytes.Repeat([]byte{0x65}, 400)
	all = slices.Concat(mark, b, mark)
	return all[len(mark) : len(mark)+len(b)], all
}

// fill overwrites bytes, their spare capacity too.
func fill(b []byte, x byte) {
	b = b[:cap(b)]
	for i := range b {
		b[i] = x
	}
}

func TestArgumentsStay(t *testing.T) {
	r := source()
	for n := range 200 {
		text := someText(r, n)
		packed := lz.Pack(text)
		for _, b := range [][]byte{text, packed, packed[:len(packed)/2], someBytes(r, n), written(someParts(r)...)} {
			arg, all := withSpare(b)
			before := slices.Clone(all)
			lz.Pack(arg)
			for _, most := range []int{-1, 0, n - 1, n, 1 << 20} {
				lz.Unpack(arg, most)
			}
			if !bytes.Equal(all, before) {
				t.Errorf("%x: the memory of the argument was changed", b)
			}
		}
	}
}

// Bytes in the spare capacity, and ahead of the argument, are not bytes of it.
func TestSpareCapacityIsNotRead(t *testing.T) {
	b := []byte("abcdabcdabcd")
	checkPack(t, b[:4], []byte{0x40, 'a', 'b', 'c', 'd'})
	checkPack(t, b[:7], slices.Concat([]byte{0x70}, b[:7]))
	checkPack(t, b[4:8], []byte{0x40, 'a', 'b', 'c', 'd'})
	checkPack(t, b[:0], []byte{0})
	p := lz.Pack(b)
	for i := range p {
		checkAnyUnpack(t, p[:i], 12)
	}
	checkUnpack(t, p[:0], 12, nil, api.ErrForm)
	checkUnpack(t, p[:6], 12, nil, api.ErrForm)
	checkUnpack(t, slices.Concat([]byte{0x10, 'a'}, p)[:2], 12, []byte{'a'}, api.OK)
}

// checkMemory calls f twice and finds out whether the results share memory with the argument or one another.
func checkMemory(t *testing.T, name string, argument []byte, f func(b []byte) []byte) {
	t.Helper()
	b, all := withSpare(argument)
	before := slices.Clone(all)
	one, two := f(b), f(b)
	want := slices.Clone(one)
	fill(all, 0x11)
	if !bytes.Equal(one, want) || !bytes.Equal(two, want) {
		t.Errorf("%s: a changed argument changed a result", name)
	}
	copy(all, before)
	fill(one, 0x22)
	if !bytes.Equal(all, before) || !bytes.Equal(two, want) {
		t.Errorf("%s: a result shares memory", name)
	}
}

func TestResultsAreNewMemory(t *testing.T) {
	r := source()
	for _, n := range []int{0, 1, 3, 4, 5, 14, 15, 16, 300, 5000} {
		for _, text := range [][]byte{distinct(n), someText(r, n), make([]byte, n)} {
			checkMemory(t, "Pack", text, lz.Pack)
			checkMemory(t, "Unpack", lz.Pack(text), func(b []byte) []byte {
				out, _ := lz.Unpack(b, n)
				return out
			})
		}
	}
}

func TestNoStateIsKept(t *testing.T) {
	for range 3 {
		checkPack(t, []byte("abcdabcd"), []byte{0x40, 'a', 'b', 'c', 'd', 4, 0, 0})
		checkPack(t, []byte("abcd"), []byte{0x40, 'a', 'b', 'c', 'd'})
		checkPack(t, nil, []byte{0})
		checkUnpack(t, []byte{0x10, 'a', 1, 0, 0}, 5, []byte("aaaaa"), api.OK)
		checkUnpack(t, []byte{0, 1, 0, 0}, 5, nil, api.ErrForm)
		checkUnpack(t, []byte{0x10, 'a', 1, 0, 0}, 4, nil, api.ErrLong)
		checkUnpack(t, []byte{0}, 0, nil, api.OK)
		checkUnpack(t, []byte{0}, -1, nil, api.ErrArg)
	}
}
