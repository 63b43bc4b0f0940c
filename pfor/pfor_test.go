package pfor_test

import (
	"bytes"
	"math"
	"math/rand"
	"slices"
	"testing"

	"dragnet/api"
	"dragnet/pfor"
)

// The helpers below follow the chapters' definitions by other means than the package does.

const greatest = uint64(math.MaxUint64)

// handNumber is the encoding of a number (layer 2).
func handNumber(v uint64) []byte {
	if v <= 247 {
		return []byte{byte(v)}
	}
	b := []byte{247}
	for ; v > 0; v /= 256 {
		b[0]++
		b = append(b, byte(v%256))
	}
	return b
}

// handPacked lays the lowest w bits of the numbers of l into bytes, bit by bit (layer 3).
func handPacked(l []uint64, w int) []byte {
	b := make([]byte, (len(l)*w+7)/8)
	for i, v := range l {
		for k := range w {
			if v>>k&1 == 1 {
				b[(i*w+k)/8] |= 1 << ((i*w + k) % 8)
			}
		}
	}
	return b
}

// power returns 2^w, if that is a number, and whether it is.
func power(w int) (uint64, bool) {
	p := uint64(1)
	for range w {
		p *= 2
	}
	return p, w < 64
}

type exception struct {
	index byte
	high  uint64
}

// exceptionsOf are the exceptions of a block with that base and width.
func exceptionsOf(l []uint64, base uint64, w int) []exception {
	var list []exception
	p, ok := power(w)
	for i, v := range l {
		if ok && v-base >= p {
			list = append(list, exception{byte(i), (v - base) / p})
		}
	}
	return list
}

// rawBlock lays the parts of a block one behind the other, right or wrong.
func rawBlock(l []uint64, base uint64, w int, list []exception) []byte {
	differences := slices.Clone(l)
	for i := range differences {
		differences[i] -= base
	}
	b := slices.Concat([]byte{byte(len(l))}, handNumber(base), []byte{byte(w), byte(len(list))}, handPacked(differences, w))
	for _, x := range list {
		b = slices.Concat(b, []byte{x.index}, handNumber(x.high))
	}
	return b
}

// withWidth is the block l encoded with the right base and the width w.
func withWidth(l []uint64, w int) []byte {
	base := slices.Min(l)
	return rawBlock(l, base, w, exceptionsOf(l, base, w))
}

// sizeOfBody is the number of bytes behind the number of exceptions, if the block l is encoded with the width w.
func sizeOfBody(l []uint64, w int) int {
	size, base := (len(l)*w+7)/8, slices.Min(l)
	p, ok := power(w)
	for _, v := range l {
		if ok && v-base >= p {
			size += 1 + len(handNumber((v-base)/p))
		}
	}
	return size
}

// handBlock is the encoding of the block l; w is its width.
func handBlock(l []uint64) (b []byte, w int) {
	fewest := sizeOfBody(l, 0)
	for x := 1; x <= 64; x++ {
		if size := sizeOfBody(l, x); size < fewest {
			fewest, w = size, x
		}
	}
	return withWidth(l, w), w
}

// handList is the encoding of the list l.
func handList(l []uint64) []byte {
	b := handNumber(uint64(len(l)))
	for len(l) > 32 {
		block, _ := handBlock(l[:32])
		b, l = append(b, block...), l[32:]
	}
	if len(l) > 0 {
		block, _ := handBlock(l)
		b = append(b, block...)
	}
	return b
}

// splitList is a list of len(l) numbers whose blocks have the lengths that are given.
func splitList(l []uint64, lengths ...int) []byte {
	b := handNumber(uint64(len(l)))
	for _, n := range lengths {
		block, _ := handBlock(l[:n])
		b, l = append(b, block...), l[n:]
	}
	return b
}

// takeNumber reads the number that b begins with, if it does.
func takeNumber(b []byte) (v uint64, rest []byte, ok bool) {
	if len(b) == 0 {
		return 0, nil, false
	}
	follow := max(0, int(b[0])-247)
	if follow == 0 {
		return uint64(b[0]), b[1:], true
	}
	if len(b) < 1+follow {
		return 0, nil, false
	}
	for i := follow; i >= 1; i-- {
		v = v*256 + uint64(b[i])
	}
	return v, b[1+follow:], bytes.Equal(handNumber(v), b[:1+follow])
}

// handTakeBlock reads the block that b begins with; it asks for each of the definition's demands by itself.
func handTakeBlock(b []byte) (l []uint64, size int, ok bool) {
	if len(b) == 0 || b[0] < 1 || b[0] > 32 {
		return nil, 0, false
	}
	n := int(b[0])
	base, rest, ok := takeNumber(b[1:])
	if !ok || len(rest) < 2 || rest[0] > 64 {
		return nil, 0, false
	}
	w, exceptions := int(rest[0]), int(rest[1])
	rest = rest[2:]
	if 8*len(rest) < n*w {
		return nil, 0, false
	}
	differences := make([]uint64, n)
	for bit := range n * w {
		differences[bit/w] |= uint64(rest[bit/8]>>(bit%8)&1) << (bit % w)
	}
	packed := handPacked(differences, w)
	if !bytes.Equal(packed, rest[:len(packed)]) {
		return nil, 0, false
	}
	rest, ok = handTakeExceptions(rest[len(packed):], differences, w, exceptions)
	if !ok || !slices.Contains(differences, 0) {
		return nil, 0, false
	}
	for _, d := range differences {
		if d > greatest-base {
			return nil, 0, false
		}
		l = append(l, base+d)
	}
	if _, best := handBlock(l); best != w {
		return nil, 0, false
	}
	return l, len(b) - len(rest), true
}

// handTakeExceptions reads n exceptions into the differences.
func handTakeExceptions(b []byte, differences []uint64, w, n int) (rest []byte, ok bool) {
	last := -1
	for range n {
		if len(b) == 0 || int(b[0]) <= last || int(b[0]) >= len(differences) {
			return nil, false
		}
		last = int(b[0])
		var high uint64
		if high, b, ok = takeNumber(b[1:]); !ok || high == 0 {
			return nil, false
		}
		p, ok := power(w)
		if !ok || high > greatest/p {
			return nil, false
		}
		differences[last] += high * p
	}
	return b, true
}

// handTakeList reads the list that b begins with.
func handTakeList(b []byte, most int) (l []uint64, size int, e api.Errno) {
	if most < 0 {
		return nil, 0, api.ErrArg
	}
	count, rest, ok := takeNumber(b)
	if !ok {
		return nil, 0, api.ErrForm
	}
	if count > uint64(most) {
		return nil, 0, api.ErrLong
	}
	for uint64(len(l)) < count {
		block, size, ok := handTakeBlock(rest)
		if !ok || uint64(len(block)) != min(32, count-uint64(len(l))) {
			return nil, 0, api.ErrForm
		}
		l, rest = append(l, block...), rest[size:]
	}
	return l, len(b) - len(rest), api.OK
}

// handFold is the number that stands for an integer (layer 2).
func handFold(n int) uint64 {
	if n < 0 {
		return ^(2 * uint64(n))
	}
	return 2 * uint64(n)
}

func handFolded(l []int) []uint64 {
	var folded []uint64
	for _, n := range l {
		folded = append(folded, handFold(n))
	}
	return folded
}

// numbers of many kinds

func source() *rand.Rand {
	return rand.New(rand.NewSource(1))
}

func someBytes(r *rand.Rand, n int) []byte {
	b := make([]byte, n)
	r.Read(b)
	return b
}

func alike(n int, v uint64) []uint64 {
	return slices.Repeat([]uint64{v}, n)
}

// counting returns the numbers from v on.
func counting(n int, v uint64) []uint64 {
	l := make([]uint64, n)
	for i := range l {
		l[i] = v + uint64(i)
	}
	return l
}

// some returns a number of at most w bits.
func some(r *rand.Rand, w int) uint64 {
	if w == 0 {
		return 0
	}
	return r.Uint64() >> (64 - w)
}

// someNumbers returns n numbers near one another, some of them far away, above a base of any size.
func someNumbers(r *rand.Rand, n int) []uint64 {
	few, many, odds := r.Intn(65), r.Intn(65), r.Intn(40)
	base, l := some(r, r.Intn(65)), make([]uint64, n)
	for i := range l {
		w := few
		if r.Intn(40) < odds {
			w = many
		}
		l[i] = base + min(some(r, w), greatest-base)
	}
	return l
}

// lengths of lists that the chapter's blocks make edges of.
func lengths() []int {
	return []int{0, 1, 2, 31, 32, 33, 63, 64, 65, 96, 97, 4095, 4096, 4097}
}

// edgeBlocks are blocks that end the ranges of their parts.
func edgeBlocks() [][]uint64 {
	list := [][]uint64{
		{0}, {1}, {247}, {248}, {greatest}, {1 << 63},
		{0, 0}, {0, 1}, {0, 2}, {1, 0}, {0, greatest}, {greatest, 0}, {greatest, greatest - 1}, {1<<63 - 1, 1 << 63},
		alike(32, 0), alike(32, 247), alike(32, 248), alike(32, greatest), alike(7, 1<<63),
		append(alike(31, 0), greatest), append(alike(31, greatest), 0),
		append(alike(31, greatest-1), greatest), append(alike(31, 1), greatest),
		counting(32, 0), counting(32, 240), counting(32, greatest-31), counting(31, 1<<32-7),
	}
	for w := range 64 {
		p, _ := power(w)
		list = append(list, []uint64{0, p}, []uint64{p, 0, p - 1}, []uint64{p, p - 1, 2*p - 1, 5},
			append(alike(31, 0), p), append(alike(31, p), 0), append(alike(16, 0), alike(16, 2*p-1)...))
	}
	return list
}

func checkPutBlock(t *testing.T, b []byte, l []uint64, want []byte, e api.Errno) {
	t.Helper()
	gotB, gotE := pfor.PutBlock(b, l)
	if !bytes.Equal(gotB, want) || gotE != e {
		t.Errorf("PutBlock(%x, %d) = %x, error %d; want %x, error %d", b, l, gotB, gotE, want, e)
	}
}

func checkTakeBlock(t *testing.T, b []byte, l []uint64, size int, e api.Errno) {
	t.Helper()
	gotL, gotSize, gotE := pfor.TakeBlock(b)
	if !slices.Equal(gotL, l) || gotSize != size || gotE != e {
		t.Errorf("TakeBlock(%x) = %d, %d, error %d; want %d, %d, error %d", b, gotL, gotSize, gotE, l, size, e)
	}
}

// checkTakeAnyBlock holds TakeBlock against the definition.
func checkTakeAnyBlock(t *testing.T, b []byte) (taken bool) {
	t.Helper()
	l, size, ok := handTakeBlock(b)
	e := api.ErrForm
	if ok {
		e = api.OK
	}
	checkTakeBlock(t, b, l, size, e)
	return ok
}

func checkPutList(t *testing.T, b []byte, l []uint64, want []byte) {
	t.Helper()
	if got := pfor.PutList(b, l); !bytes.Equal(got, want) {
		t.Errorf("PutList(%d bytes, %d numbers) = %.60x of %d bytes; want %.60x of %d bytes", len(b), len(l), got, len(got), want, len(want))
	}
}

func checkTakeList(t *testing.T, b []byte, most int, l []uint64, size int, e api.Errno) {
	t.Helper()
	gotL, gotSize, gotE := pfor.TakeList(b, most)
	if !slices.Equal(gotL, l) || gotSize != size || gotE != e {
		t.Errorf("TakeList(%.60x of %d bytes, %d) = %d numbers, %d, error %d; want %d numbers, %d, error %d",
			b, len(b), most, len(gotL), gotSize, gotE, len(l), size, e)
	}
}

func checkPutInts(t *testing.T, b []byte, l []int, want []byte) {
	t.Helper()
	if got := pfor.PutInts(b, l); !bytes.Equal(got, want) {
		t.Errorf("PutInts(%d bytes, %.10d of %d) = %.60x of %d bytes; want %.60x of %d bytes", len(b), l, len(l), got, len(got), want, len(want))
	}
}

func checkTakeInts(t *testing.T, b []byte, most int, l []int, size int, e api.Errno) {
	t.Helper()
	gotL, gotSize, gotE := pfor.TakeInts(b, most)
	if !slices.Equal(gotL, l) || gotSize != size || gotE != e {
		t.Errorf("TakeInts(%.60x of %d bytes, %d) = %d integers, %d, error %d; want %d integers, %d, error %d",
			b, len(b), most, len(gotL), gotSize, gotE, len(l), size, e)
	}
}

// checkTakes holds TakeList and TakeInts against one another and against what is wanted of both.
func checkTakes(t *testing.T, b []byte, most int, l []uint64, size int, e api.Errno) {
	t.Helper()
	checkTakeList(t, b, most, l, size, e)
	ints, gotSize, gotE := pfor.TakeInts(b, most)
	if !slices.Equal(handFolded(ints), l) || gotSize != size || gotE != e {
		t.Errorf("TakeInts(%.60x of %d bytes, %d) = %d integers, %d, error %d; want %d integers, %d, error %d",
			b, len(b), most, len(ints), gotSize, gotE, len(l), size, e)
	}
}

// P4.1: blocks.

func TestKnownBlocks(t *testing.T) {
	cases := []struct {
		l []uint64
		b []byte
	}{
		{[]uint64{0}, []byte{1, 0, 0, 0}},
		{[]uint64{247}, []byte{1, 247, 0, 0}},
		{[]uint64{248}, []byte{1, 248, 248, 0, 0}},
		{[]uint64{greatest}, []byte{1, 255, 255, 255, 255, 255, 255, 255, 255, 255, 0, 0}},
		{[]uint64{5, 5, 5}, []byte{3, 5, 0, 0}},
		{[]uint64{5, 7, 6}, []byte{3, 5, 2, 0, 0x18}},
		{[]uint64{0, 0, 0, 0, 0, 0, 0, 1000}, []byte{8, 0, 0, 1, 7, 249, 0xe8, 3}},
		{alike(32, 9), []byte{32, 9, 0, 0}},
		{[]uint64{0, 5}, []byte{2, 0, 3, 0, 0x28}},
		{append(alike(7, 0), 1), []byte{8, 0, 1, 0, 0x80}},
		{append(alike(8, 0), 1), []byte{9, 0, 0, 1, 8, 1}},
		{[]uint64{0, greatest}, []byte{2, 0, 0, 1, 1, 255, 255, 255, 255, 255, 255, 255, 255, 255}},
		{[]uint64{3, 2, 3, 2, 3, 2, 3, 250}, []byte{8, 2, 1, 1, 0x55, 7, 124}},
		{[]uint64{0, 1 << 60, 1 << 60}, []byte{3, 0, 0, 2, 1, 255, 0, 0, 0, 0, 0, 0, 0, 16, 2, 255, 0, 0, 0, 0, 0, 0, 0, 16}},
		{append(alike(31, 0), 247), []byte{32, 0, 0, 1, 31, 247}},
		{append(alike(31, 0), 248), []byte{32, 0, 0, 1, 31, 248, 248}},
	}
	for _, c := range cases {
		checkPutBlock(t, nil, c.l, c.b, api.OK)
		checkTakeBlock(t, c.b, c.l, len(c.b), api.OK)
	}
}

func TestBlocksFollowTheDefinition(t *testing.T) {
	r := source()
	widths, exceptions := [65]int{}, [33]int{}
	try := func(l []uint64) {
		want, w := handBlock(l)
		widths[w]++
		exceptions[len(exceptionsOf(l, slices.Min(l), w))]++
		checkPutBlock(t, nil, l, want, api.OK)
		checkTakeBlock(t, want, l, len(want), api.OK)
	}
	for _, l := range edgeBlocks() {
		try(l)
	}
	for n := 1; n <= 32; n++ {
		for range 400 {
			try(someNumbers(r, n))
		}
		for w := range 65 {
			l := make([]uint64, n)
			for i := range l {
				l[i] = some(r, w)
			}
			try(l)
		}
	}
	for w, n := range widths {
		if n == 0 {
			t.Errorf("no block had the width %d", w)
		}
	}
	for n := range 11 {
		if exceptions[n] == 0 {
			t.Errorf("no block had %d exceptions", n)
		}
	}
}

// Each width comes about without exceptions, and with one.
func TestEachWidth(t *testing.T) {
	for w := 1; w <= 64; w++ {
		full := greatest >> (64 - w)
		l := append(alike(31, full), 0)
		b, got := handBlock(l)
		if got != w || len(exceptionsOf(l, 0, w)) != 0 {
			t.Errorf("the block of the width %d has the width %d", w, got)
		}
		checkPutBlock(t, nil, l, b, api.OK)
		checkTakeBlock(t, b, l, len(b), api.OK)
		if w > 50 {
			continue // one more number of 64 bits needs no exception then
		}
		l[7] = greatest
		b, got = handBlock(l)
		if got != w || len(exceptionsOf(l, 0, w)) != 1 {
			t.Errorf("the block with an exception of the width %d has the width %d", w, got)
		}
		checkPutBlock(t, nil, l, b, api.OK)
		checkTakeBlock(t, b, l, len(b), api.OK)
	}
}

func TestAnExceptionAtEachIndex(t *testing.T) {
	for n := 9; n <= 32; n++ {
		for at := range n {
			for _, high := range []uint64{1, 2, 247, 248, 255, 256, 1<<16 - 1, 1 << 16, 1<<24 - 1, 1 << 24, 1 << 32, 1<<40 - 1, 1 << 48, 1<<56 - 1, 1 << 56, greatest} {
				l := alike(n, 0)
				l[at] = high
				want := slices.Concat([]byte{byte(n), 0, 0, 1, byte(at)}, handNumber(high))
				checkPutBlock(t, nil, l, want, api.OK)
				checkTakeBlock(t, want, l, len(want), api.OK)
			}
		}
	}
}

// What a number takes in bytes decides between the widths.
func TestExceptionsAtTheEndsOfEachSize(t *testing.T) {
	edges := []uint64{247, 248, 255, 256}
	for size := 2; size <= 7; size++ {
		p, _ := power(8 * size)
		edges = append(edges, p-1, p)
	}
	for _, high := range edges {
		for w := range 8 {
			for n := 2; n <= 32; n++ {
				for far := 1; far <= 3 && far < n; far++ {
					l := append(alike(n-far, 1<<w-1), alike(far, high<<w)...)
					l[0] = 0
					want, _ := handBlock(l)
					checkPutBlock(t, nil, l, want, api.OK)
					checkTakeBlock(t, want, l, len(want), api.OK)
				}
			}
		}
	}
}

func TestPutBlockOfAWrongLength(t *testing.T) {
	for _, b := range [][]byte{nil, {}, {1, 2}} {
		for _, l := range [][]uint64{nil, {}, counting(2, 5)[:0], alike(33, 0), counting(33, 7), alike(34, greatest), alike(64, 1), alike(256, 1), alike(257, 1), alike(5000, 0)} {
			checkPutBlock(t, b, l, nil, api.ErrArg)
		}
	}
}

func TestBytesStayAhead(t *testing.T) {
	r := source()
	for range 500 {
		b := someBytes(r, r.Intn(40))
		l := someNumbers(r, r.Intn(70))
		checkPutList(t, b, l, slices.Concat(b, handList(l)))
		if len(l) >= 1 && len(l) <= 32 {
			block, _ := handBlock(l)
			checkPutBlock(t, b, l, slices.Concat(b, block), api.OK)
		}
		ints := someInts(r, r.Intn(70))
		checkPutInts(t, b, ints, slices.Concat(b, handList(handFolded(ints))))
	}
}

// P4.1: bytes that are no block.

func TestTakeBlockOfWrongBytes(t *testing.T) {
	cases := [][]byte{
		nil, {},
		{0}, {0, 5, 0, 0}, {33, 5, 0, 0}, {255, 5, 0, 0}, // the number of numbers
		{1}, {1, 5}, {1, 5, 0}, {1, 248}, // parts that are missing
		{1, 248, 5, 0, 0}, {1, 249, 200, 0, 0, 0}, // a base that is no number
		{3, 5, 65, 0}, {3, 5, 255, 0}, {32, 0, 255, 255}, // the width
		append([]byte{1, 5, 65, 0}, make([]byte, 9)...), append([]byte{3, 5, 65, 0}, make([]byte, 30)...),
		{3, 5, 2, 0}, {3, 5, 0, 1}, {3, 5, 0, 1, 1},
		{3, 5, 2, 0, 0x58}, {3, 5, 2, 0, 0x98}, // unused bits
		{3, 5, 1, 0, 0}, {3, 5, 3, 0, 0x50, 0}, // widths that are too great
		{3, 5, 2, 0, 0x15}, {3, 5, 1, 0, 7}, // no difference is 0
		{3, 5, 0, 1, 3, 1}, {3, 5, 0, 1, 255, 1}, // indices that the block does not have
		{1, 1, 0, 1, 0, 1}, {1, 0, 0, 1, 0, 0},
		{9, 0, 0, 1, 8, 0},                 // an exception that is none
		{9, 0, 0, 2, 7, 1, 8, 0},           // one of two
		{9, 0, 0, 1, 8, 248, 1},            // a value that is no number
		{9, 0, 0, 1, 8, 249, 1, 0},         //
		{25, 0, 0, 2, 8, 1, 8, 1},          // an index twice
		{25, 0, 0, 2, 9, 1, 8, 1},          // indices that decrease
		{25, 0, 0, 2, 8, 1, 9},             // a number of exceptions that is too great
		{25, 0, 0, 3, 8, 1, 9, 1},          //
		{2, 0, 0, 1, 1, 1}, {2, 0, 0, 255}, // a width that is too small
	}
	for _, b := range cases {
		if checkTakeAnyBlock(t, b) {
			t.Errorf("%x was meant to be no block", b)
		}
	}
	checkTakeBlock(t, []byte{25, 0, 0, 2, 8, 1, 9, 1}, slices.Concat(alike(8, 0), alike(2, 1), alike(15, 0)), 8, api.OK)
}

func TestTakeBlockOfCutBlocks(t *testing.T) {
	r := source()
	blocks := edgeBlocks()
	for range 500 {
		blocks = append(blocks, someNumbers(r, 1+r.Intn(32)))
	}
	for _, l := range blocks {
		b, _ := handBlock(l)
		for i := range b {
			checkTakeBlock(t, b[:i], nil, 0, api.ErrForm)
		}
	}
}

func TestTakeBlockOfChangedBlocks(t *testing.T) {
	r := source()
	blocks := [][]uint64{{5, 5, 5}, {5, 7, 6}, {0, 0, 0, 0, 0, 0, 0, 1000}, {0, greatest}, {300, 301}}
	for _, n := range []int{1, 2, 9, 17, 31, 32} {
		blocks = append(blocks, someNumbers(r, n), counting(n, 250), append(alike(n-1, 8), 1<<20))
	}
	taken, refused := 0, 0
	for _, l := range blocks {
		good, _ := handBlock(l)
		for i := range good {
			for x := range 256 {
				b := bytes.Clone(good)
				b[i] = byte(x)
				if checkTakeAnyBlock(t, append(b, 0, 0, 1, 0)[:len(b)+x%5]) {
					taken++
				} else {
					refused++
				}
			}
		}
	}
	if taken < 1000 || refused < 1000 {
		t.Errorf("%d changed blocks were taken, %d refused", taken, refused)
	}
}

func TestTakeBlockOfAnyBytes(t *testing.T) {
	r, taken := source(), 0
	for range 200000 {
		b := someBytes(r, r.Intn(12))
		for i := range b {
			if i < 4 || r.Intn(2) == 0 {
				b[i] >>= r.Intn(9)
			}
		}
		if checkTakeAnyBlock(t, b) {
			taken++
		}
	}
	if taken < 1000 {
		t.Errorf("only %d blocks were taken", taken)
	}
}

// All blocks of few bytes and few numbers are tried, right and wrong ones.
func TestTakeBlockOfAllShortBytes(t *testing.T) {
	for n := range 4 {
		for w := range 6 {
			for exceptions := range 3 {
				for i := range 1 << 12 {
					b := []byte{byte(n), 3, byte(w), byte(exceptions), byte(i & 15), byte(i >> 4 & 15), byte(i >> 8)}
					checkTakeAnyBlock(t, b)
					checkTakeAnyBlock(t, append(b, 1))
				}
			}
		}
	}
}

func TestBlocksWithAnotherWidth(t *testing.T) {
	r := source()
	blocks := edgeBlocks()
	for range 300 {
		blocks = append(blocks, someNumbers(r, 1+r.Intn(32)))
	}
	for _, l := range blocks {
		_, best := handBlock(l)
		for w := range 65 {
			if w != best {
				b := withWidth(l, w)
				checkTakeBlock(t, b, nil, 0, api.ErrForm)
				checkTakeBlock(t, append(b, make([]byte, 300)...), nil, 0, api.ErrForm)
			}
		}
	}
}

func TestBlocksWithAnotherBase(t *testing.T) {
	r := source()
	for range 400 {
		l := someNumbers(r, 1+r.Intn(32))
		least := slices.Min(l)
		for _, base := range []uint64{0, least / 2, least - 1, least + 1, slices.Max(l), greatest} {
			if base == least {
				continue
			}
			for w := range 65 {
				checkTakeBlock(t, rawBlock(l, base, w, exceptionsOf(l, base, w)), nil, 0, api.ErrForm)
			}
		}
	}
}

func TestBlocksWithOtherExceptions(t *testing.T) {
	r, tried := source(), 0
	for range 3000 {
		l := someNumbers(r, 2+r.Intn(31))
		base := slices.Min(l)
		good, w := handBlock(l)
		list := exceptionsOf(l, base, w)
		if len(list) == 0 {
			continue
		}
		tried++
		at := r.Intn(len(list))
		others := [][]exception{
			slices.Delete(slices.Clone(list), at, at+1),
			slices.Insert(slices.Clone(list), at, list[at]),
			append(slices.Clone(list), exception{byte(len(l)), 1}),
			append(slices.Clone(list), list[at]),
			append(slices.Clone(list), exception{byte(r.Intn(len(l))), 0}),
			slices.Insert(slices.Clone(list), 0, exception{0, 0}),
		}
		for i := 1; i < len(list); i++ {
			swapped := slices.Clone(list)
			swapped[i-1], swapped[i] = swapped[i], swapped[i-1]
			others = append(others, swapped)
		}
		zero, far := slices.Clone(list), slices.Clone(list)
		zero[at].high = 0
		far[at].high = greatest // beyond the greatest number, unless the width is 0
		others = append(others, zero)
		if w > 0 {
			others = append(others, far)
		}
		for _, other := range others {
			b := rawBlock(l, base, w, other)
			checkTakeAnyBlock(t, b)
			if bytes.HasPrefix(b, good) {
				t.Errorf("%x begins with the right exceptions", b)
			}
		}
	}
	if tried < 300 {
		t.Errorf("only %d blocks with exceptions were tried", tried)
	}
}

// A difference or a number beyond 2^64 - 1 does not come round to a good one.
func TestTakeBlockBeyondTheGreatestNumber(t *testing.T) {
	for _, b := range [][]byte{
		slices.Concat([]byte{2}, handNumber(greatest), []byte{1, 0, 2}),
		slices.Concat([]byte{2}, handNumber(greatest-1), []byte{2, 0, 8}),
		slices.Concat([]byte{9}, handNumber(greatest), []byte{0, 1, 8, 1}),
		slices.Concat([]byte{9}, handNumber(1), []byte{0, 1, 8}, handNumber(greatest)),
		slices.Concat([]byte{8, 0, 1, 1, 0x55, 7}, handNumber(1<<63)),
		slices.Concat([]byte{8, 0, 1, 1, 0x55, 7}, handNumber(greatest)),
		slices.Concat([]byte{1, 0, 64, 1}, make([]byte, 8), []byte{0, 1}),
	} {
		checkTakeBlock(t, b, nil, 0, api.ErrForm)
	}
	for _, b := range [][]byte{
		slices.Concat([]byte{2}, handNumber(greatest-1), []byte{1, 0, 2}),
		slices.Concat([]byte{9}, handNumber(1), []byte{0, 1, 8}, handNumber(greatest-1)),
		slices.Concat([]byte{8, 0, 1, 1, 0x55, 7}, handNumber(1<<63-1)),
	} {
		l, _, ok := handTakeBlock(b)
		if !ok {
			t.Errorf("%x was meant to be a block", b)
		}
		checkTakeBlock(t, b, l, len(b), api.OK)
	}
}

// P4.1: lists.

func TestKnownLists(t *testing.T) {
	cases := []struct {
		l []uint64
		b []byte
	}{
		{nil, []byte{0}},
		{[]uint64{9}, []byte{1, 1, 9, 0, 0}},
		{[]uint64{5, 7, 6}, []byte{3, 3, 5, 2, 0, 0x18}},
		{alike(32, 5), []byte{32, 32, 5, 0, 0}},
		{append(alike(32, 5), 6), []byte{33, 32, 5, 0, 0, 1, 6, 0, 0}},
		{alike(64, 5), []byte{64, 32, 5, 0, 0, 32, 5, 0, 0}},
		{append(alike(32, 0), alike(33, 1)...), []byte{65, 32, 0, 0, 0, 32, 1, 0, 0, 1, 1, 0, 0}},
	}
	for _, c := range cases {
		checkPutList(t, nil, c.l, c.b)
		checkTakes(t, c.b, len(c.l), c.l, len(c.b), api.OK)
	}
}

func TestKnownInts(t *testing.T) {
	cases := []struct {
		l []int
		b []byte
	}{
		{nil, []byte{0}},
		{[]int{0}, []byte{1, 1, 0, 0, 0}},
		{[]int{-1}, []byte{1, 1, 1, 0, 0}},
		{[]int{1}, []byte{1, 1, 2, 0, 0}},
		{[]int{-3, -3}, []byte{2, 2, 5, 0, 0}},
		{[]int{-1, 0, 1, -2}, []byte{4, 4, 0, 2, 0, 0xe1}},
		{[]int{math.MaxInt}, []byte{1, 1, 255, 254, 255, 255, 255, 255, 255, 255, 255, 0, 0}},
		{[]int{math.MinInt}, []byte{1, 1, 255, 255, 255, 255, 255, 255, 255, 255, 255, 0, 0}},
		{[]int{math.MaxInt, math.MinInt}, []byte{2, 2, 255, 254, 255, 255, 255, 255, 255, 255, 255, 1, 0, 2}},
	}
	for _, c := range cases {
		checkPutInts(t, nil, c.l, c.b)
		checkTakeInts(t, c.b, len(c.l), c.l, len(c.b), api.OK)
	}
}

// someInts returns n integers near one another, some of them far away.
func someInts(r *rand.Rand, n int) []int {
	l := make([]int, n)
	for i, v := range someNumbers(r, n) {
		l[i] = int(v)
	}
	if n > 0 && r.Intn(3) == 0 {
		l[r.Intn(n)] = math.MinInt
		l[r.Intn(n)] = math.MaxInt
	}
	return l
}

func TestListsFollowTheDefinition(t *testing.T) {
	r := source()
	for range 5 {
		for _, n := range lengths() {
			var l []uint64
			for len(l) < n {
				l = append(l, someNumbers(r, min(n-len(l), 1+r.Intn(60)))...)
			}
			want := handList(l)
			checkPutList(t, nil, l, want)
			checkTakes(t, want, n, l, len(want), api.OK)
			ints := someInts(r, n)
			want = handList(handFolded(ints))
			checkPutInts(t, nil, ints, want)
			checkTakeInts(t, want, n, ints, len(want), api.OK)
		}
	}
}

func TestMostOfAList(t *testing.T) {
	for _, n := range lengths() {
		l := counting(n, 70)
		b := handList(l)
		for _, most := range []int{n, n + 1, n + 32, 2*n + 5, math.MaxInt - 1, math.MaxInt} {
			checkTakes(t, b, most, l, len(b), api.OK)
			checkTakes(t, append(bytes.Clone(b), 1, 2, 3), most, l, len(b), api.OK)
		}
		for _, most := range []int{n - 1, n - 2, n / 2, 0} {
			if most >= 0 && most < n {
				checkTakes(t, b, most, nil, 0, api.ErrLong)
			}
		}
		for _, most := range []int{-1, -2, -n - 1, math.MinInt + 1, math.MinInt} {
			checkTakes(t, b, most, nil, 0, api.ErrArg)
		}
	}
}

func TestTheOrderOfErrors(t *testing.T) {
	noNumber := [][]byte{nil, {}, {248}, {248, 5}, {248, 247}, {249, 5, 0}, {255, 1, 2, 3}, {255, 1, 2, 3, 4, 5, 6, 7, 0}}
	for _, b := range noNumber {
		checkTakes(t, b, -1, nil, 0, api.ErrArg)
		checkTakes(t, b, math.MinInt, nil, 0, api.ErrArg)
		for _, most := range []int{0, 1, 1000, math.MaxInt} {
			checkTakes(t, b, most, nil, 0, api.ErrForm)
		}
	}
	noList := [][]byte{{2}, {2, 0}, {2, 1, 0, 0, 0, 1, 0, 0, 0}, {2, 3, 0, 0, 0}, {248, 248}, {255, 0, 0, 0, 0, 0, 0, 0, 128}, handNumber(greatest), handNumber(1<<63 - 1)}
	for _, b := range noList {
		count, _, _ := takeNumber(b)
		checkTakes(t, b, -1, nil, 0, api.ErrArg)
		checkTakes(t, b, 1, nil, 0, api.ErrLong)
		checkTakes(t, b, 0, nil, 0, api.ErrLong)
		if count <= math.MaxInt {
			checkTakes(t, b, int(count), nil, 0, api.ErrForm)
			checkTakes(t, b, math.MaxInt, nil, 0, api.ErrForm)
		} else {
			checkTakes(t, b, math.MaxInt, nil, 0, api.ErrLong)
		}
	}
}

// A list that says that it is longer than any memory is refused for what it lacks.
func TestTakeListOfHugeCounts(t *testing.T) {
	block, _ := handBlock(alike(32, 1))
	for _, count := range []uint64{33, 1 << 20, 1 << 31, 1 << 40, 1 << 62, 1<<63 - 32, 1<<63 - 1} {
		b := slices.Concat(handNumber(count), block)
		checkTakes(t, b, math.MaxInt, nil, 0, api.ErrForm)
		checkTakes(t, b, int(count), nil, 0, api.ErrForm)
		checkTakes(t, b, int(count)-1, nil, 0, api.ErrLong)
	}
	for _, count := range []uint64{1 << 63, 1<<63 + 32, greatest - 31, greatest} {
		checkTakes(t, slices.Concat(handNumber(count), block), math.MaxInt, nil, 0, api.ErrLong)
	}
}

func TestListsWithOtherBlocks(t *testing.T) {
	l := counting(97, 1000)
	splits := [][]int{
		{1, 1}, {31, 1}, {1, 31}, {16, 16}, {31, 2}, {1, 32}, {32, 31, 1}, {31, 32, 1}, {32, 16, 16}, {16, 32, 16},
		{31, 32, 2}, {1, 32, 32}, {32, 1, 32}, {32, 32, 31, 2}, {32, 31, 32, 2}, {32, 32, 1, 32},
	}
	for _, split := range splits {
		n := 0
		for _, length := range split {
			n += length
		}
		b := splitList(l[:n], split...)
		checkTakes(t, b, n, nil, 0, api.ErrForm)
		checkTakes(t, slices.Concat(b, b, b), n, nil, 0, api.ErrForm)
	}
	for n := range 97 {
		for length := 1; length <= 32; length++ { // one block behind a count that is not its own
			block, _ := handBlock(l[:length])
			b := slices.Concat(handNumber(uint64(n)), block)
			switch n {
			case 0:
				checkTakes(t, b, 97, nil, 1, api.OK)
			case length:
				checkTakes(t, b, 97, l[:length], len(b), api.OK)
			default:
				checkTakes(t, b, 97, nil, 0, api.ErrForm)
			}
		}
	}
}

func TestCutLists(t *testing.T) {
	r := source()
	for _, n := range []int{0, 1, 31, 32, 33, 64, 65, 300} {
		for _, l := range [][]uint64{someNumbers(r, n), counting(n, 5), alike(n, greatest)} {
			b := handList(l)
			for i := range b {
				checkTakes(t, b[:i], math.MaxInt, nil, 0, api.ErrForm)
			}
		}
	}
}

func TestChangedLists(t *testing.T) {
	r := source()
	for _, n := range []int{0, 1, 2, 31, 32, 33, 64, 65} {
		for _, l := range [][]uint64{someNumbers(r, n), alike(n, 9), counting(n, 3)} {
			good := handList(l)
			for i := range good {
				for _, x := range []byte{0, 1, 2, 31, 32, 33, 64, 65, 127, 247, 248, 255, good[i] - 1, good[i] + 1, good[i] ^ 128} {
					b := bytes.Clone(good)
					b[i] = x
					most := []int{n, 1000, math.MaxInt}[int(x)%3]
					want, size, e := handTakeList(b, most)
					checkTakes(t, b, most, want, size, e)
				}
			}
		}
	}
}

func TestListsWithABlockOfAnotherWidth(t *testing.T) {
	r := source()
	for _, n := range []int{1, 32, 33, 65} {
		l := someNumbers(r, n)
		last := (n - 1) / 32 * 32
		ahead, tail := handList(l)[:0:0], l[last:]
		ahead = append(ahead, handNumber(uint64(n))...)
		for i := 0; i < last; i += 32 {
			block, _ := handBlock(l[i : i+32])
			ahead = append(ahead, block...)
		}
		_, best := handBlock(tail)
		for w := range 65 {
			b := slices.Concat(ahead, withWidth(tail, w))
			if w == best {
				checkTakes(t, b, n, l, len(b), api.OK)
			} else {
				checkTakes(t, b, n, nil, 0, api.ErrForm)
			}
		}
	}
}

// P4.2: the inverse.

func TestTakeUndoesPut(t *testing.T) {
	r := source()
	for range 3000 {
		behind := someBytes(r, r.Intn(20))
		if r.Intn(2) == 0 {
			behind = handList(someNumbers(r, r.Intn(40)))
		}
		l := someNumbers(r, 1+r.Intn(32))
		block, _ := pfor.PutBlock(nil, l)
		checkTakeBlock(t, slices.Concat(block, behind), l, len(block), api.OK)
		l = someNumbers(r, r.Intn(140))
		list := pfor.PutList(nil, l)
		checkTakeList(t, slices.Concat(list, behind), len(l), l, len(list), api.OK)
		n := someInts(r, r.Intn(140))
		ints := pfor.PutInts(nil, n)
		checkTakeInts(t, slices.Concat(ints, behind), len(n), n, len(ints), api.OK)
	}
}

func TestPutUndoesTake(t *testing.T) {
	r, blocks, lists := source(), 0, 0
	for range 8000 {
		b := handList(someNumbers(r, 1+r.Intn(70)))
		for range r.Intn(3) {
			i := r.Intn(len(b))
			b[i] = byte(r.Intn(256) >> r.Intn(8))
		}
		if l, size, e := pfor.TakeBlock(b[1:]); e == api.OK {
			blocks++
			checkPutBlock(t, nil, l, b[1:1+size], api.OK)
		}
		if l, size, e := pfor.TakeList(b, 1000); e == api.OK {
			lists++
			checkPutList(t, nil, l, b[:size])
		}
		if l, size, e := pfor.TakeInts(b, 1000); e == api.OK {
			checkPutInts(t, nil, l, b[:size])
		}
	}
	if blocks < 1000 || lists < 1000 {
		t.Errorf("only %d blocks and %d lists were taken", blocks, lists)
	}
}

// P4.3: the fewest bytes.

func TestNoOtherWidthIsShorter(t *testing.T) {
	r, ties := source(), 0
	blocks := edgeBlocks()
	for range 4000 {
		blocks = append(blocks, someNumbers(r, 1+r.Intn(32)))
	}
	for _, l := range blocks {
		b, e := pfor.PutBlock(nil, l)
		_, rest, ok := takeNumber(b[1:])
		if e != api.OK || !ok || len(rest) == 0 {
			t.Errorf("PutBlock(%d) = %x, error %d", l, b, e)
			continue
		}
		for w := range 65 {
			size := len(withWidth(l, w))
			if size < len(b) || size == len(b) && w < int(rest[0]) {
				t.Errorf("PutBlock(%d) has %d bytes with the width %d; there are %d with %d", l, len(b), rest[0], size, w)
			}
			if size == len(b) && w != int(rest[0]) {
				ties++
				checkTakeBlock(t, withWidth(l, w), nil, 0, api.ErrForm)
			}
		}
	}
	if ties < 1000 {
		t.Errorf("only %d widths led to as many bytes", ties)
	}
}

// P1: arguments stay as they were, results are new memory, and no state is kept.

type element interface{ byte | uint64 | int }

// withSpare returns l in the middle of more memory, and all of that memory.
func withSpare[T element](l []T) (arg, all []T) {
	mark := slices.Repeat([]T{0x65}, 400)
	all = slices.Concat(mark, l, mark)
	return all[len(mark) : len(mark)+len(l)], all
}

// fill overwrites a list, its spare capacity too.
func fill[T element](l []T, x T) {
	l = l[:cap(l)]
	for i := range l {
		l[i] = x
	}
}

func TestArgumentsStay(t *testing.T) {
	r := source()
	for n := range 70 {
		b, allB := withSpare(someBytes(r, n))
		l, allL := withSpare(someNumbers(r, n))
		ints, allInts := withSpare(someInts(r, n))
		beforeB, beforeL, beforeInts := slices.Clone(allB), slices.Clone(allL), slices.Clone(allInts)
		pfor.PutBlock(b, l)
		pfor.PutList(b, l)
		pfor.PutInts(b, ints)
		if !slices.Equal(allB, beforeB) || !slices.Equal(allL, beforeL) || !slices.Equal(allInts, beforeInts) {
			t.Errorf("%d elements: the memory of an argument was changed by a put", n)
		}
		for _, list := range [][]byte{handList(l), handList(l)[1:], handList(l)[:1+n/2], someBytes(r, n)} {
			b, all := withSpare(list)
			before := slices.Clone(all)
			pfor.TakeBlock(b)
			for _, most := range []int{-1, 0, n - 1, n, 1000} {
				pfor.TakeList(b, most)
				pfor.TakeInts(b, most)
			}
			if !slices.Equal(all, before) {
				t.Errorf("%x: the memory of the argument was changed by a take", list)
			}
		}
	}
}

// Elements in the spare capacity are not elements of the argument.
func TestSpareCapacityIsNotRead(t *testing.T) {
	b := handList([]uint64{5, 7, 6, 1000})
	for i := range b {
		checkTakes(t, b[:i], 10, nil, 0, api.ErrForm)
	}
	for i := 1; i < len(b); i++ {
		checkTakeBlock(t, b[1:i], nil, 0, api.ErrForm)
	}
	l := []uint64{5, 7, 6, 0, 1000}
	checkPutBlock(t, b[:0], l[:3], []byte{3, 5, 2, 0, 0x18}, api.OK)
	checkPutBlock(t, b[:0], counting(33, 0)[:0], nil, api.ErrArg)
	checkPutList(t, b[:0], l[:3], []byte{3, 3, 5, 2, 0, 0x18})
}

// checkPutMemory calls a put twice and finds out whether the results share memory with the arguments or one another.
func checkPutMemory[T element](t *testing.T, name string, head []byte, list []T, put func(b []byte, l []T) []byte) {
	t.Helper()
	b, allB := withSpare(head)
	l, allL := withSpare(list)
	beforeB, beforeL := slices.Clone(allB), slices.Clone(allL)
	one, two := put(b, l), put(b, l)
	want := slices.Clone(one)
	fill(allB, 0x11)
	fill(allL, 0x11)
	if !slices.Equal(one, want) || !slices.Equal(two, want) {
		t.Errorf("%s: a changed argument changed a result", name)
	}
	copy(allB, beforeB)
	copy(allL, beforeL)
	fill(one, 0x22)
	if !slices.Equal(allB, beforeB) || !slices.Equal(allL, beforeL) || !slices.Equal(two, want) {
		t.Errorf("%s: a result shares memory", name)
	}
}

func TestPutsAnswerNewMemory(t *testing.T) {
	r := source()
	for _, n := range []int{0, 1, 2, 31, 32, 33, 65} {
		for _, head := range [][]byte{nil, {}, {1}, someBytes(r, 100)} {
			checkPutMemory(t, "PutBlock", head, someNumbers(r, max(1, n%33)), func(b []byte, l []uint64) []byte {
				out, _ := pfor.PutBlock(b, l)
				return out
			})
			checkPutMemory(t, "PutList", head, someNumbers(r, n), pfor.PutList)
			checkPutMemory(t, "PutInts", head, someInts(r, n), pfor.PutInts)
		}
	}
}

// checkTakeMemory calls a take twice and finds out whether the results share memory with the argument or one another.
func checkTakeMemory[T element](t *testing.T, name string, list []byte, take func(b []byte) []T) {
	t.Helper()
	b, all := withSpare(list)
	before := slices.Clone(all)
	one, two := take(b), take(b)
	want := slices.Clone(one)
	fill(all, 0x11)
	if !slices.Equal(one, want) || !slices.Equal(two, want) {
		t.Errorf("%s: a changed argument changed a result", name)
	}
	copy(all, before)
	fill(one, 0x22)
	if !slices.Equal(all, before) || !slices.Equal(two, want) {
		t.Errorf("%s: a result shares memory", name)
	}
}

func TestTakesAnswerNewMemory(t *testing.T) {
	r := source()
	for _, n := range []int{0, 1, 2, 31, 32, 33, 65} {
		list := handList(someNumbers(r, n))
		checkTakeMemory(t, "TakeBlock", list[1:], func(b []byte) []uint64 {
			l, _, _ := pfor.TakeBlock(b)
			return l
		})
		checkTakeMemory(t, "TakeList", list, func(b []byte) []uint64 {
			l, _, _ := pfor.TakeList(b, n)
			return l
		})
		checkTakeMemory(t, "TakeInts", list, func(b []byte) []int {
			l, _, _ := pfor.TakeInts(b, n)
			return l
		})
	}
}

func TestNoStateIsKept(t *testing.T) {
	for range 3 {
		checkPutBlock(t, []byte{1}, []uint64{5, 7, 6}, []byte{1, 3, 5, 2, 0, 0x18}, api.OK)
		checkPutBlock(t, nil, nil, nil, api.ErrArg)
		checkTakeBlock(t, []byte{3, 5, 2, 0, 0x18}, []uint64{5, 7, 6}, 5, api.OK)
		checkTakeBlock(t, []byte{3, 5, 2, 0, 0x58}, nil, 0, api.ErrForm)
		checkPutList(t, nil, []uint64{9}, []byte{1, 1, 9, 0, 0})
		checkTakes(t, []byte{1, 1, 9, 0, 0}, 1, []uint64{9}, 5, api.OK)
		checkTakes(t, []byte{1, 1, 9, 0, 0}, 0, nil, 0, api.ErrLong)
		checkPutInts(t, nil, []int{-3, -3}, []byte{2, 2, 5, 0, 0})
		checkTakeInts(t, []byte{2, 2, 5, 0, 0}, 2, []int{-3, -3}, 5, api.OK)
	}
}
