package bits_test

import (
	"bytes"
	"encoding/binary"
	"math"
	"math/rand"
	"slices"
	"testing"

	"dragnet/api"
	"dragnet/bits"
)

// The helpers below follow the chapter's definitions by other means than the package does.

const greatest = uint64(math.MaxUint64)

// handPacked lays the bits of the numbers of l into bytes one by one, as the chapter's definition says.
func handPacked(l []uint64, w int) []byte {
	b := make([]byte, handSize(len(l), w))
	for i, v := range l {
		for k := range w {
			if v>>k&1 == 1 {
				b[(i*w+k)/8] |= 1 << ((i*w + k) % 8)
			}
		}
	}
	return b
}

// handUnpacked gathers the bits of n numbers one by one.
func handUnpacked(b []byte, n, w int) []uint64 {
	l := make([]uint64, n)
	for i := range l {
		for k := range w {
			if b[(i*w+k)/8]>>((i*w+k)%8)&1 == 1 {
				l[i] |= 1 << k
			}
		}
	}
	return l
}

// handSize is the least number of bytes that have n * w bits.
func handSize(n, w int) int {
	size := n * w / 8
	if 8*size < n*w {
		size++
	}
	return size
}

// fits reports whether v is less than 2^w.
func fits(v uint64, w int) bool {
	return v <= greatestOf(w)
}

// greatestOf is the greatest number of the width w: 2^w - 1.
func greatestOf(w int) uint64 {
	v := uint64(0)
	for range w {
		v = 2*v + 1
	}
	return v
}

func source() *rand.Rand {
	return rand.New(rand.NewSource(1))
}

func someBytes(r *rand.Rand, n int) []byte {
	b := make([]byte, n)
	r.Read(b)
	return b
}

// someNumbers returns n numbers of the width w, some of them the least and the greatest ones.
func someNumbers(r *rand.Rand, n, w int) []uint64 {
	l := make([]uint64, n)
	for i := range l {
		switch r.Intn(4) {
		case 0:
			l[i] = greatestOf(w)
		case 1:
			l[i] = 0
		default:
			l[i] = r.Uint64() & greatestOf(w)
		}
	}
	return l
}

// alike returns n numbers v.
func alike(n int, v uint64) []uint64 {
	return slices.Repeat([]uint64{v}, n)
}

// counts are lengths of lists: with every width that is not of whole bytes, the bits of some end with a byte, and of some do not.
func counts() []int {
	list := []int{15, 16, 17, 31, 32, 33, 63, 64, 65, 100, 255, 256, 4095, 4096}
	for n := range 12 {
		list = append(list, n)
	}
	return list
}

// wrongWidths are numbers of bits that no width can be.
func wrongWidths() []int {
	return []int{-1, 65, -2, 66, -64, 128, 256, 1 << 32, -1 << 32, math.MinInt, math.MinInt + 1, math.MaxInt - 1, math.MaxInt}
}

// wrongCounts are counts of numbers that Unpack does not take.
func wrongCounts() []int {
	return []int{-1, 4097, -2, 4098, -4096, 8192, 1 << 32, -1 << 32, 1 << 58, 1 << 61, math.MinInt, math.MinInt + 1, math.MaxInt - 1, math.MaxInt}
}

func checkWidth(t *testing.T, l []uint64, want int) {
	t.Helper()
	if got := bits.Width(l); got != want {
		t.Errorf("Width(%.40x of %d) = %d, want %d", l, len(l), got, want)
	}
}

func checkPack(t *testing.T, l []uint64, w int, b []byte, e api.Errno) {
	t.Helper()
	gotB, gotE := bits.Pack(l, w)
	if !bytes.Equal(gotB, b) || gotE != e {
		t.Errorf("Pack(%d numbers, %d) = %.20x of %d bytes, error %d; want %.20x of %d bytes, error %d",
			len(l), w, gotB, len(gotB), gotE, b, len(b), e)
	}
}

func checkUnpack(t *testing.T, b []byte, n, w int, l []uint64, e api.Errno) {
	t.Helper()
	gotL, gotE := bits.Unpack(b, n, w)
	if !slices.Equal(gotL, l) || gotE != e {
		t.Errorf("Unpack(%.20x of %d bytes, %d, %d) = %d numbers, error %d; want %d numbers, error %d",
			b, len(b), n, w, len(gotL), gotE, len(l), e)
	}
}

// P3.1: Width.

func TestWidthOfKnownLists(t *testing.T) {
	cases := []struct {
		l []uint64
		w int
	}{
		{nil, 0},
		{[]uint64{}, 0},
		{[]uint64{7}[:0], 0},
		{[]uint64{0}, 0},
		{[]uint64{0, 0, 0}, 0},
		{alike(4097, 0), 0},
		{[]uint64{1}, 1},
		{[]uint64{1, 2, 3}, 2},
		{[]uint64{3, 4}, 3},
		{[]uint64{8, 0}, 4},
		{[]uint64{0, 8}, 4},
		{[]uint64{8, 7, 1}, 4},
		{[]uint64{255}, 8},
		{[]uint64{256}, 9},
		{[]uint64{1 << 32, 1<<32 - 1}, 33},
		{[]uint64{1 << 63}, 64},
		{[]uint64{1<<63 - 1}, 63},
		{[]uint64{0, greatest, 0}, 64},
	}
	for _, c := range cases {
		checkWidth(t, c.l, c.w)
	}
}

func TestWidthOfEachWidth(t *testing.T) {
	for w := range 64 {
		checkWidth(t, []uint64{greatestOf(w)}, w)
		checkWidth(t, []uint64{greatestOf(w) + 1}, w+1)
		for at := range 5 {
			l := []uint64{0, 0, 0, 0, 0}
			l[at] = greatestOf(w) + 1
			checkWidth(t, l, w+1)
		}
		checkWidth(t, append(alike(5000, 0), greatestOf(w)), w)
	}
	checkWidth(t, []uint64{greatestOf(64)}, 64)
}

func TestWidthIsTheLeastThatFits(t *testing.T) {
	r := source()
	for range 3000 {
		l := someNumbers(r, r.Intn(9), r.Intn(65))
		want := 0
		for slices.ContainsFunc(l, func(v uint64) bool { return !fits(v, want) }) {
			want++
		}
		checkWidth(t, l, want)
	}
}

// P3.1: Pack of good numbers.

func TestPackAndUnpackOfKnownLists(t *testing.T) {
	cases := []struct {
		l []uint64
		w int
		b []byte
	}{
		{nil, 0, nil},
		{nil, 64, nil},
		{[]uint64{0, 0}, 0, nil},
		{[]uint64{0}, 1, []byte{0}},
		{[]uint64{1}, 1, []byte{1}},
		{[]uint64{1, 0, 0, 0, 0, 0, 0, 1}, 1, []byte{0x81}},
		{[]uint64{1, 0, 0, 0, 0, 0, 0, 0, 1}, 1, []byte{1, 1}},
		{[]uint64{1, 2, 3}, 2, []byte{0x39}},
		{[]uint64{1, 2, 3, 0}, 2, []byte{0x39}},
		{[]uint64{1, 2, 3, 0, 0}, 2, []byte{0x39, 0}},
		{[]uint64{5}, 3, []byte{5}},
		{[]uint64{5, 5, 5}, 3, []byte{0x6d, 0x01}},
		{[]uint64{1, 2}, 4, []byte{0x21}},
		{[]uint64{0x7f, 0}, 7, []byte{0x7f, 0}},
		{[]uint64{0, 0x7f}, 7, []byte{0x80, 0x3f}},
		{[]uint64{0x12, 0x34}, 8, []byte{0x12, 0x34}},
		{[]uint64{0x1ff, 0, 0x155}, 9, []byte{0xff, 0x01, 0x54, 0x05}},
		{[]uint64{0xabc, 0xdef}, 12, []byte{0xbc, 0xfa, 0xde}},
		{[]uint64{0x0123, 0x4567}, 16, []byte{0x23, 0x01, 0x67, 0x45}},
		{[]uint64{1<<63 - 1, 1}, 63, []byte{0xff, 0xff, 0xff, 0xff, 0xff, 0xff, 0xff, 0xff, 0, 0, 0, 0, 0, 0, 0, 0}},
		{[]uint64{0, greatest}, 64, append(make([]byte, 8), bytes.Repeat([]byte{255}, 8)...)},
		{[]uint64{0x0102030405060708}, 64, []byte{8, 7, 6, 5, 4, 3, 2, 1}},
	}
	for _, c := range cases {
		checkPack(t, c.l, c.w, c.b, api.OK)
		checkUnpack(t, c.b, len(c.l), c.w, c.l, api.OK)
	}
}

func TestPackFollowsTheDefinition(t *testing.T) {
	r := source()
	for w := range 65 {
		for _, n := range counts() {
			l := someNumbers(r, n, w)
			checkPack(t, l, w, handPacked(l, w), api.OK)
			checkPack(t, alike(n, 0), w, make([]byte, handSize(n, w)), api.OK)
			checkPack(t, alike(n, greatestOf(w)), w, handPacked(alike(n, greatestOf(w)), w), api.OK)
		}
	}
}

func TestPackOfWholeBytesIsTheNumbersBytes(t *testing.T) {
	r := source()
	for size := 1; size <= 8; size++ {
		l, want := someNumbers(r, 50, 8*size), []byte(nil)
		for _, v := range l {
			want = append(want, binary.LittleEndian.AppendUint64(nil, v)[:size]...)
		}
		checkPack(t, l, 8*size, want, api.OK)
		checkUnpack(t, want, 50, 8*size, l, api.OK)
	}
}

// A list may be packed that is longer than one that can be unpacked.
func TestPackOfLongLists(t *testing.T) {
	r := source()
	for _, w := range []int{0, 1, 7, 8, 33, 64} {
		for _, n := range []int{4097, 20001} {
			l := someNumbers(r, n, w)
			checkPack(t, l, w, handPacked(l, w), api.OK)
		}
	}
}

func TestEachBitHasItsPlace(t *testing.T) {
	for w := 1; w <= 64; w++ {
		for i := range 9 {
			for k := range w {
				l := alike(9, 0)
				l[i] = 1 << k
				b := make([]byte, handSize(9, w))
				b[(i*w+k)/8] = 1 << ((i*w + k) % 8)
				checkPack(t, l, w, b, api.OK)
				checkUnpack(t, b, 9, w, l, api.OK)
			}
		}
	}
}

// P3.1: Pack of wrong arguments.

func TestPackOfNumbersThatAreTooGreat(t *testing.T) {
	for w := range 64 {
		least := greatestOf(w) + 1 // that is too great
		for _, v := range []uint64{least, least + 1, 1 << 63, greatest} {
			if fits(v, w) {
				continue
			}
			for at := range 4 {
				l := alike(4, greatestOf(w))
				l[at] = v
				checkPack(t, l, w, nil, api.ErrRange)
				l[at] = greatestOf(w)
				checkPack(t, l, w, handPacked(l, w), api.OK)
			}
			checkPack(t, append(alike(5000, 0), v), w, nil, api.ErrRange)
			checkPack(t, []uint64{v}, w, nil, api.ErrRange)
		}
	}
	checkPack(t, []uint64{greatest}, 64, bytes.Repeat([]byte{255}, 8), api.OK)
	checkPack(t, []uint64{5}, 2, nil, api.ErrRange)
	checkPack(t, []uint64{1}, 0, nil, api.ErrRange)
}

func TestPackWithAWrongWidth(t *testing.T) {
	for _, w := range wrongWidths() {
		for _, l := range [][]uint64{nil, {}, {0}, {1, 2, 3}, {greatest}, alike(5000, 0)} {
			checkPack(t, l, w, nil, api.ErrArg) // ahead of ErrRange
		}
	}
}

// P3.1: Unpack of good bytes.

func TestUnpackFollowsTheDefinition(t *testing.T) {
	r := source()
	for w := range 65 {
		for _, n := range counts() {
			b := someBytes(r, handSize(n, w))
			if n*w%8 != 0 {
				b[len(b)-1] &= 1<<(n*w%8) - 1
			}
			checkUnpack(t, b, n, w, handUnpacked(b, n, w), api.OK)
			checkUnpack(t, make([]byte, len(b)), n, w, alike(n, 0), api.OK)
			full := handPacked(alike(n, greatestOf(w)), w)
			checkUnpack(t, full, n, w, alike(n, greatestOf(w)), api.OK)
		}
	}
}

func TestUnpackOfNoBytes(t *testing.T) {
	for w := range 65 {
		checkUnpack(t, nil, 0, w, nil, api.OK)
		checkUnpack(t, []byte{}, 0, w, nil, api.OK)
	}
	for _, n := range counts() {
		checkUnpack(t, nil, n, 0, alike(n, 0), api.OK)
		checkUnpack(t, []byte{}, n, 0, alike(n, 0), api.OK)
	}
}

// P3.1: Unpack of wrong arguments.

func TestUnpackOfTooFewAndTooManyBytes(t *testing.T) {
	for w := range 65 {
		for _, n := range counts() {
			size := handSize(n, w)
			if size > 0 {
				checkUnpack(t, make([]byte, size-1), n, w, nil, api.ErrShort)
				checkUnpack(t, bytes.Repeat([]byte{255}, size-1), n, w, nil, api.ErrShort)
				checkUnpack(t, nil, n, w, nil, api.ErrShort)
			}
			checkUnpack(t, make([]byte, size+1), n, w, nil, api.ErrForm)
			checkUnpack(t, append(make([]byte, size), 1), n, w, nil, api.ErrForm)
			checkUnpack(t, make([]byte, size+9), n, w, nil, api.ErrForm)
			checkUnpack(t, bytes.Repeat([]byte{255}, size+1), n, w, nil, api.ErrForm)
		}
	}
}

func TestUnpackOfUnusedBits(t *testing.T) {
	r, tried := source(), 0
	for w := range 65 {
		for _, n := range counts() {
			good := handPacked(someNumbers(r, n, w), w)
			for bit := n * w; bit < 8*len(good); bit++ {
				b := bytes.Clone(good)
				b[bit/8] |= 1 << (bit % 8)
				checkUnpack(t, b, n, w, nil, api.ErrForm)
				b = make([]byte, len(good))
				b[bit/8] |= 1 << (bit % 8)
				checkUnpack(t, b, n, w, nil, api.ErrForm)
				tried++
			}
		}
	}
	checkUnpack(t, []byte{0x79}, 3, 2, nil, api.ErrForm)
	checkUnpack(t, []byte{0xb9}, 3, 2, nil, api.ErrForm)
	if tried < 1000 {
		t.Errorf("only %d unused bits were tried", tried)
	}
}

func TestUnpackWithAWrongWidthOrCount(t *testing.T) {
	lists := [][]byte{nil, {}, {0}, {1, 2}, {255}, make([]byte, 32768), make([]byte, 40000)}
	for _, b := range lists {
		for _, w := range wrongWidths() {
			for _, n := range append(wrongCounts(), 0, 1, 3, 4096) {
				checkUnpack(t, b, n, w, nil, api.ErrArg) // ahead of ErrShort and ErrForm
			}
		}
		for _, n := range wrongCounts() {
			for w := range 65 {
				checkUnpack(t, b, n, w, nil, api.ErrArg)
			}
		}
	}
}

func TestUnpackOfTheGreatestCount(t *testing.T) {
	r := source()
	for w := range 65 {
		l := someNumbers(r, 4097, w)
		checkUnpack(t, handPacked(l[:4096], w), 4096, w, l[:4096], api.OK)
		checkUnpack(t, handPacked(l, w), 4097, w, nil, api.ErrArg)
	}
}

// P3.2: the inverse.

func TestUnpackUndoesPack(t *testing.T) {
	r := source()
	for w := range 65 {
		for _, n := range counts() {
			l := someNumbers(r, n, w)
			b, e := bits.Pack(l, w)
			if e != api.OK {
				t.Errorf("Pack(%d numbers, %d): error %d", n, w, e)
			}
			checkUnpack(t, b, n, w, l, api.OK)
		}
	}
}

func TestPackUndoesUnpack(t *testing.T) {
	r, unpacked, refused := source(), 0, 0
	for range 100000 {
		n, w := r.Intn(20), r.Intn(65)
		b := someBytes(r, max(0, handSize(n, w)+r.Intn(3)-1))
		l, e := bits.Unpack(b, n, w)
		if e != api.OK {
			refused++
			continue
		}
		unpacked++
		checkPack(t, l, w, b, api.OK)
	}
	if unpacked < 5000 || refused < 5000 {
		t.Errorf("%d lists were unpacked, %d refused", unpacked, refused)
	}
}

// All two bytes are unpacked, or refused because no numbers are packed to them.
func TestAllPacksOfTwoBytes(t *testing.T) {
	for w := 1; w <= 16; w++ {
		n := 16 / w
		if handSize(n, w) != 2 {
			continue
		}
		for i := range 1 << 16 {
			b := []byte{byte(i), byte(i >> 8)}
			if i>>(n*w) != 0 {
				checkUnpack(t, b, n, w, nil, api.ErrForm)
				continue
			}
			l := handUnpacked(b, n, w)
			checkUnpack(t, b, n, w, l, api.OK)
			checkPack(t, l, w, b, api.OK)
		}
	}
}

func TestNoLesserWidthWillDo(t *testing.T) {
	r := source()
	for range 2000 {
		l := someNumbers(r, r.Intn(9), r.Intn(65))
		width := bits.Width(l)
		for w := range 65 {
			if w < width {
				checkPack(t, l, w, nil, api.ErrRange)
			} else {
				checkPack(t, l, w, handPacked(l, w), api.OK)
			}
		}
	}
}

// P1: arguments stay as they were, results are new memory, and no state is kept.

// withSpare returns l in the middle of more memory, and all of that memory.
func withSpare[T byte | uint64](l []T) (arg, all []T) {
	mark := slices.Repeat([]T{0xa5}, 64)
	all = slices.Concat(mark, l, mark)
	return all[len(mark) : len(mark)+len(l)], all
}

// fill overwrites a list, its spare capacity too.
func fill[T byte | uint64](l []T, x T) {
	l = l[:cap(l)]
	for i := range l {
		l[i] = x
	}
}

func TestArgumentsStay(t *testing.T) {
	for _, list := range [][]uint64{nil, {0}, {1, 2, 3}, {5, 0, 127}, alike(40, 9), {1, greatest}} {
		for w := -1; w <= 65; w++ {
			l, all := withSpare(list)
			before := slices.Clone(all)
			bits.Width(l)
			bits.Pack(l, w)
			if !slices.Equal(all, before) {
				t.Errorf("%x, width %d: a list's memory was changed", list, w)
			}
		}
	}
	for _, list := range [][]byte{nil, {0}, {0x39}, {0x79}, {1, 2, 3}, bytes.Repeat([]byte{255}, 64)} {
		for w := -1; w <= 65; w++ {
			b, all := withSpare(list)
			before := bytes.Clone(all)
			for _, n := range []int{-1, 0, 1, 3, 8, 4096, 4097} {
				bits.Unpack(b, n, w)
			}
			if !bytes.Equal(all, before) {
				t.Errorf("%x, width %d: the bytes' memory was changed", list, w)
			}
		}
	}
}

// Bytes in the spare capacity are not bytes of the argument.
func TestSpareCapacityIsNotRead(t *testing.T) {
	all := handPacked([]uint64{1, 2, 3, 4}, 8)
	checkUnpack(t, all[:3], 4, 8, nil, api.ErrShort)
	checkUnpack(t, all[:0], 1, 1, nil, api.ErrShort)
	checkUnpack(t, all[:2], 2, 8, []uint64{1, 2}, api.OK)
	numbers := []uint64{1, 2, greatest}
	checkWidth(t, numbers[:2], 2)
	checkPack(t, numbers[:2], 2, []byte{9}, api.OK)
}

func TestPackedBytesAreNewMemory(t *testing.T) {
	for _, w := range []int{1, 7, 8, 13, 64} {
		l, all := withSpare([]uint64{1, 0, 1, 1, 0, 1, 1, 1})
		before, want := slices.Clone(all), handPacked(l, w)
		one, _ := bits.Pack(l, w)
		two, _ := bits.Pack(l, w)
		fill(all, 0x11)
		if !bytes.Equal(one, want) || !bytes.Equal(two, want) {
			t.Errorf("width %d: a changed list changed a result", w)
		}
		copy(all, before)
		fill(one, 0x22)
		if !slices.Equal(all, before) || !bytes.Equal(two, want) {
			t.Errorf("width %d: a result shares memory", w)
		}
	}
}

func TestUnpackedNumbersAreNewMemory(t *testing.T) {
	for _, w := range []int{1, 7, 8, 13, 64} {
		want := []uint64{1, 0, 1, 1, 0, 1, 1, 1}
		b, all := withSpare(handPacked(want, w))
		before := bytes.Clone(all)
		one, _ := bits.Unpack(b, 8, w)
		two, _ := bits.Unpack(b, 8, w)
		fill(all, 0x11)
		if !slices.Equal(one, want) || !slices.Equal(two, want) {
			t.Errorf("width %d: changed bytes changed a result", w)
		}
		copy(all, before)
		fill(one, 0x22)
		if !bytes.Equal(all, before) || !slices.Equal(two, want) {
			t.Errorf("width %d: a result shares memory", w)
		}
	}
	one, _ := bits.Unpack(nil, 3, 0)
	two, _ := bits.Unpack(nil, 3, 0)
	fill(one, 7)
	if !slices.Equal(two, alike(3, 0)) {
		t.Error("two lists of zeros share memory")
	}
}

func TestNoStateIsKept(t *testing.T) {
	for range 3 {
		checkPack(t, []uint64{1, 2, 3}, 2, []byte{0x39}, api.OK)
		checkPack(t, []uint64{5}, 2, nil, api.ErrRange)
		checkPack(t, []uint64{0, 0}, 4, []byte{0}, api.OK)
		checkUnpack(t, []byte{0x39}, 3, 2, []uint64{1, 2, 3}, api.OK)
		checkUnpack(t, []byte{0x79}, 3, 2, nil, api.ErrForm)
		checkUnpack(t, []byte{0}, 2, 4, []uint64{0, 0}, api.OK)
		checkWidth(t, []uint64{8}, 4)
		checkWidth(t, nil, 0)
	}
}
