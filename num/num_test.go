package num_test

import (
	"bytes"
	"encoding/binary"
	"math"
	"math/big"
	"math/rand"
	"testing"

	"dragnet/api"
	"dragnet/num"
)

// The helpers below follow the chapter's definitions by other means than the package does.

const greatest = uint64(math.MaxUint64)

// handNumber is the encoding of v by the chapter's definition, with Go's own number of eight bytes cut down.
func handNumber(v uint64) []byte {
	if v <= 247 {
		return []byte{byte(v)}
	}
	k := 8
	for k > 1 && v>>(8*(k-1)) == 0 {
		k--
	}
	return longNumber(v, k)
}

// longNumber is v in k bytes behind the byte 247 + k, whether or not fewer would do.
func longNumber(v uint64, k int) []byte {
	eight := binary.LittleEndian.AppendUint64(nil, v)
	return append([]byte{byte(247 + k)}, eight[:k]...)
}

// handFold is the chapter's formula, in integers of any size.
func handFold(n int) uint64 {
	x := big.NewInt(int64(n))
	if n >= 0 {
		return x.Mul(x, big.NewInt(2)).Uint64()
	}
	x.Mul(x, big.NewInt(-2))
	return x.Sub(x, big.NewInt(1)).Uint64()
}

func handRow(row []byte) []byte {
	return joined(handNumber(uint64(len(row))), row)
}

func joined(parts ...[]byte) []byte {
	return bytes.Join(parts, nil)
}

func source() *rand.Rand {
	return rand.New(rand.NewSource(1))
}

func someBytes(r *rand.Rand, n int) []byte {
	b := make([]byte, n)
	r.Read(b)
	return b
}

// someNumber returns a number with any number of bits.
func someNumber(r *rand.Rand) uint64 {
	return r.Uint64() >> r.Intn(64)
}

// edgeNumbers are the numbers at which the encoding changes, and those beside them.
func edgeNumbers() []uint64 {
	list := []uint64{0, 1, 2, 127, 128, 246, 247, 248, 249, 254, 255, 256, 257, greatest - 1, greatest}
	for k := 1; k < 8; k++ {
		least := uint64(1) << (8 * k) // of k + 1 bytes
		list = append(list, least-2, least-1, least, least+1)
	}
	for i := range 64 {
		list = append(list, 1<<i, 1<<i-1)
	}
	return list
}

func manyNumbers() []uint64 {
	list := edgeNumbers()
	r := source()
	for range 2000 {
		list = append(list, someNumber(r))
	}
	return list
}

func manyInts() []int {
	list := []int{0, -1, 1, -2, 2, -123, -124, 123, 124, math.MinInt, math.MinInt + 1, math.MaxInt, math.MaxInt - 1}
	for _, v := range manyNumbers() {
		list = append(list, int(v), -int(v), int(v/2), -int(v/2), -int(v/2)-1)
	}
	return list
}

// manyRows has the lengths at which the encoding of the length changes, with contents that look like encodings too.
func manyRows() [][]byte {
	list := [][]byte{nil, {}, {0}, {247}, {248}, {255}, {248, 7}, []byte("abc"), bytes.Repeat([]byte{255}, 9)}
	r := source()
	for _, n := range []int{1, 2, 246, 247, 248, 249, 255, 256, 257, 65535, 65536, 65537} {
		list = append(list, someBytes(r, n))
	}
	return list
}

// tails are bytes that may follow an encoding.
func tails() [][]byte {
	return [][]byte{nil, {0}, {247}, {248}, {255}, bytes.Repeat([]byte{255}, 12), bytes.Repeat([]byte{0}, 12)}
}

func checkTake(t *testing.T, b []byte, v uint64, size int, e api.Errno) {
	t.Helper()
	gotV, gotSize, gotE := num.Take(b)
	if gotV != v || gotSize != size || gotE != e {
		t.Errorf("Take(%x) = %d, %d, %d; want %d, %d, %d", b, gotV, gotSize, gotE, v, size, e)
	}
}

func checkTakeInt(t *testing.T, b []byte, n, size int, e api.Errno) {
	t.Helper()
	gotN, gotSize, gotE := num.TakeInt(b)
	if gotN != n || gotSize != size || gotE != e {
		t.Errorf("TakeInt(%x) = %d, %d, %d; want %d, %d, %d", b, gotN, gotSize, gotE, n, size, e)
	}
}

func checkTakeRow(t *testing.T, b []byte, most int, row []byte, size int, e api.Errno) {
	t.Helper()
	gotRow, gotSize, gotE := num.TakeRow(b, most)
	if !bytes.Equal(gotRow, row) || gotSize != size || gotE != e {
		t.Errorf("TakeRow(%.20x of %d bytes, %d) = %.20x of %d bytes, %d, %d; want %d bytes, %d, %d",
			b, len(b), most, gotRow, len(gotRow), gotSize, gotE, len(row), size, e)
	}
}

// P2.1: Put and Take of good numbers.

func TestPutAndTakeOfKnownNumbers(t *testing.T) {
	cases := []struct {
		v uint64
		b []byte
	}{
		{0, []byte{0}},
		{1, []byte{1}},
		{247, []byte{0xf7}},
		{248, []byte{0xf8, 0xf8}},
		{255, []byte{0xf8, 0xff}},
		{256, []byte{0xf9, 0, 1}},
		{0xffff, []byte{0xf9, 0xff, 0xff}},
		{0x10000, []byte{0xfa, 0, 0, 1}},
		{0x123456, []byte{0xfa, 0x56, 0x34, 0x12}},
		{0xffffff, []byte{0xfa, 0xff, 0xff, 0xff}},
		{0x1000000, []byte{0xfb, 0, 0, 0, 1}},
		{0xffffffff, []byte{0xfb, 0xff, 0xff, 0xff, 0xff}},
		{0x100000000, []byte{0xfc, 0, 0, 0, 0, 1}},
		{0xffffffffff, []byte{0xfc, 0xff, 0xff, 0xff, 0xff, 0xff}},
		{0x10000000000, []byte{0xfd, 0, 0, 0, 0, 0, 1}},
		{0xffffffffffff, []byte{0xfd, 0xff, 0xff, 0xff, 0xff, 0xff, 0xff}},
		{0x1000000000000, []byte{0xfe, 0, 0, 0, 0, 0, 0, 1}},
		{0xffffffffffffff, []byte{0xfe, 0xff, 0xff, 0xff, 0xff, 0xff, 0xff, 0xff}},
		{0x100000000000000, []byte{0xff, 0, 0, 0, 0, 0, 0, 0, 1}},
		{greatest, bytes.Repeat([]byte{0xff}, 9)},
	}
	for _, c := range cases {
		if got := num.Put(nil, c.v); !bytes.Equal(got, c.b) {
			t.Errorf("Put(nil, %d) = %x, want %x", c.v, got, c.b)
		}
		checkTake(t, c.b, c.v, len(c.b), api.OK)
	}
}

func TestPutFollowsTheDefinition(t *testing.T) {
	r := source()
	for _, v := range manyNumbers() {
		b := someBytes(r, r.Intn(20))
		if got, want := num.Put(b, v), joined(b, handNumber(v)); !bytes.Equal(got, want) {
			t.Errorf("Put(%x, %d) = %x, want %x", b, v, got, want)
		}
	}
	for v := range uint64(70000) {
		if got, want := num.Put(nil, v), handNumber(v); !bytes.Equal(got, want) {
			t.Errorf("Put(nil, %d) = %x, want %x", v, got, want)
		}
	}
}

func TestPutBehindNoBytes(t *testing.T) {
	if got := num.Put([]byte{}, 300); !bytes.Equal(got, num.Put(nil, 300)) {
		t.Errorf("Put of no bytes = %x", got)
	}
}

// P2.1: Take of wrong bytes.

func TestTakeOfNothing(t *testing.T) {
	checkTake(t, nil, 0, 0, api.ErrShort)
	checkTake(t, []byte{}, 0, 0, api.ErrShort)
	checkTake(t, []byte{5}[:0], 0, 0, api.ErrShort)
}

func TestTakeOfCutNumbers(t *testing.T) {
	for _, v := range manyNumbers() {
		b := handNumber(v)
		for n := range len(b) {
			checkTake(t, b[:n], 0, 0, api.ErrShort)
		}
	}
}

func TestTakeOfKnownWrongBytes(t *testing.T) {
	cases := []struct {
		b []byte
		e api.Errno
	}{
		{[]byte{0xf8}, api.ErrShort},
		{[]byte{0xf9, 0}, api.ErrShort},
		{[]byte{0xff, 1, 1, 1, 1, 1, 1, 1}, api.ErrShort},
		{[]byte{0xf8, 0}, api.ErrForm},
		{[]byte{0xf8, 7}, api.ErrForm},
		{[]byte{0xf8, 247}, api.ErrForm},
		{[]byte{0xf8, 247, 248}, api.ErrForm},
		{[]byte{0xf9, 248, 0}, api.ErrForm},
		{[]byte{0xf9, 0, 0}, api.ErrForm},
		{[]byte{0xff, 1, 1, 1, 1, 1, 1, 1, 0}, api.ErrForm},
		{make([]byte, 9), api.OK},
	}
	for _, c := range cases {
		size := 0
		if c.e == api.OK {
			size = 1
		}
		checkTake(t, c.b, 0, size, c.e)
	}
}

func TestTakeOfNumbersWithAShorterEncoding(t *testing.T) {
	for _, v := range manyNumbers() {
		for k := len(handNumber(v)); k <= 8; k++ {
			b := longNumber(v, k)
			checkTake(t, b, 0, 0, api.ErrForm)
			checkTake(t, joined(b, []byte{1}), 0, 0, api.ErrForm)
			for n := range len(b) { // a number that is cut is short, whatever its form
				checkTake(t, b[:n], 0, 0, api.ErrShort)
			}
		}
	}
}

func TestTakeOfAllBeginningsOfThreeBytes(t *testing.T) {
	for i := range 1 << 24 {
		b := []byte{byte(i >> 16), byte(i >> 8), byte(i)}
		v, size, e := num.Take(b)
		wantV, wantSize, wantE := uint64(b[0]), 1, api.OK
		switch two := binary.LittleEndian.Uint16(b[1:]); {
		case b[0] > 249:
			wantV, wantSize, wantE = 0, 0, api.ErrShort
		case b[0] == 248 && b[1] <= 247, b[0] == 249 && two <= 255:
			wantV, wantSize, wantE = 0, 0, api.ErrForm
		case b[0] == 248:
			wantV, wantSize = uint64(b[1]), 2
		case b[0] == 249:
			wantV, wantSize = uint64(two), 3
		}
		if v != wantV || size != wantSize || e != wantE {
			t.Fatalf("Take(%x) = %d, %d, %d; want %d, %d, %d", b, v, size, e, wantV, wantSize, wantE)
		}
	}
}

// P2.1: Fold and Unfold.

func TestFoldOfKnownIntegers(t *testing.T) {
	cases := []struct {
		n int
		v uint64
	}{
		{0, 0}, {-1, 1}, {1, 2}, {-2, 3}, {2, 4}, {-3, 5},
		{123, 246}, {-124, 247}, {124, 248}, {-125, 249},
		{math.MaxInt - 1, greatest - 3},
		{math.MinInt + 1, greatest - 2},
		{math.MaxInt, greatest - 1},
		{math.MinInt, greatest},
	}
	for _, c := range cases {
		if got := num.Fold(c.n); got != c.v {
			t.Errorf("Fold(%d) = %d, want %d", c.n, got, c.v)
		}
		if got := num.Unfold(c.v); got != c.n {
			t.Errorf("Unfold(%d) = %d, want %d", c.v, got, c.n)
		}
	}
}

func TestFoldFollowsTheFormula(t *testing.T) {
	for _, n := range manyInts() {
		if got, want := num.Fold(n), handFold(n); got != want {
			t.Errorf("Fold(%d) = %d, want %d", n, got, want)
		}
		if got := num.Unfold(handFold(n)); got != n {
			t.Errorf("Unfold(%d) = %d, want %d", handFold(n), got, n)
		}
	}
}

// P2.1: PutInt and TakeInt.

func TestPutIntAndTakeIntOfKnownIntegers(t *testing.T) {
	cases := []struct {
		n int
		b []byte
	}{
		{0, []byte{0}},
		{-1, []byte{1}},
		{1, []byte{2}},
		{-124, []byte{0xf7}},
		{124, []byte{0xf8, 0xf8}},
		{-200, []byte{0xf9, 0x8f, 0x01}},
		{math.MaxInt, []byte{0xff, 0xfe, 0xff, 0xff, 0xff, 0xff, 0xff, 0xff, 0xff}},
		{math.MinInt, bytes.Repeat([]byte{0xff}, 9)},
	}
	for _, c := range cases {
		if got := num.PutInt(nil, c.n); !bytes.Equal(got, c.b) {
			t.Errorf("PutInt(nil, %d) = %x, want %x", c.n, got, c.b)
		}
		checkTakeInt(t, c.b, c.n, len(c.b), api.OK)
	}
}

func TestPutIntFollowsTheDefinition(t *testing.T) {
	r := source()
	for _, n := range manyInts() {
		b := someBytes(r, r.Intn(20))
		if got, want := num.PutInt(b, n), joined(b, handNumber(handFold(n))); !bytes.Equal(got, want) {
			t.Errorf("PutInt(%x, %d) = %x, want %x", b, n, got, want)
		}
	}
}

func TestTakeIntGivesTheErrorOfTake(t *testing.T) {
	checkTakeInt(t, nil, 0, 0, api.ErrShort)
	checkTakeInt(t, []byte{}, 0, 0, api.ErrShort)
	for _, v := range manyNumbers() {
		b := handNumber(v)
		for n := range len(b) {
			checkTakeInt(t, b[:n], 0, 0, api.ErrShort)
		}
		for k := len(b); k <= 8; k++ {
			checkTakeInt(t, longNumber(v, k), 0, 0, api.ErrForm)
			checkTakeInt(t, longNumber(v, k)[:k], 0, 0, api.ErrShort)
		}
	}
}

// P2.1: PutRow and TakeRow.

func TestPutRowFollowsTheDefinition(t *testing.T) {
	if got, want := num.PutRow([]byte{9}, []byte("abc")), []byte{9, 3, 'a', 'b', 'c'}; !bytes.Equal(got, want) {
		t.Errorf("PutRow = %x, want %x", got, want)
	}
	if got, want := num.PutRow(nil, nil), []byte{0}; !bytes.Equal(got, want) {
		t.Errorf("PutRow(nil, nil) = %x, want %x", got, want)
	}
	if got := num.PutRow(nil, make([]byte, 248))[:3]; !bytes.Equal(got, []byte{248, 248, 0}) {
		t.Errorf("PutRow of 248 bytes begins with %x", got)
	}
	for _, row := range manyRows() {
		for _, b := range tails() {
			if got, want := num.PutRow(b, row), joined(b, handRow(row)); !bytes.Equal(got, want) {
				t.Errorf("PutRow(%x, %d bytes) is %d bytes, want %d", b, len(row), len(got), len(want))
			}
		}
	}
}

func TestTakeRowUpToMost(t *testing.T) {
	for _, row := range manyRows() {
		b := handRow(row)
		for _, most := range []int{len(row), len(row) + 1, len(row) + 1000, math.MaxInt - 1, math.MaxInt} {
			checkTakeRow(t, b, most, row, len(b), api.OK)
		}
		for _, most := range []int{0, len(row) / 2, len(row) - 1} {
			if most >= 0 && most < len(row) {
				checkTakeRow(t, b, most, nil, 0, api.ErrLong)
			}
		}
		for _, most := range []int{-1, -2, -len(row) - 1, math.MinInt + 1, math.MinInt} {
			checkTakeRow(t, b, most, nil, 0, api.ErrArg)
		}
	}
}

func TestTakeRowOfCutRows(t *testing.T) {
	for _, row := range manyRows() {
		b := handRow(row)
		step := 1 + len(b)/300
		for n := 0; n < len(b); n += step {
			checkTakeRow(t, b[:n], len(row), nil, 0, api.ErrShort)
			checkTakeRow(t, b[:n], math.MaxInt, nil, 0, api.ErrShort)
		}
		checkTakeRow(t, b[:len(b)-1], math.MaxInt, nil, 0, api.ErrShort)
	}
}

func TestTakeRowNamesTheFirstError(t *testing.T) {
	badForm, cut := []byte{0xf8, 3, 'a', 'b', 'c'}, []byte{0xf9, 0}
	tooFew := []byte{5, 'a', 'b'}
	cases := []struct {
		b    []byte
		most int
		e    api.Errno
	}{
		{nil, -1, api.ErrArg},
		{[]byte{}, math.MinInt, api.ErrArg},
		{badForm, -1, api.ErrArg},
		{cut, -1, api.ErrArg},
		{tooFew, -1, api.ErrArg},
		{[]byte{0}, -1, api.ErrArg},
		{nil, 0, api.ErrShort},
		{nil, 9, api.ErrShort},
		{cut, 0, api.ErrShort},
		{cut, 9, api.ErrShort},
		{badForm, 0, api.ErrForm},
		{badForm, 2, api.ErrForm},
		{badForm, 9, api.ErrForm},
		{badForm[:2], 2, api.ErrForm},
		{tooFew, 0, api.ErrLong},
		{tooFew, 4, api.ErrLong},
		{tooFew, 5, api.ErrShort},
		{tooFew, math.MaxInt, api.ErrShort},
		{[]byte{1}, 0, api.ErrLong},
		{[]byte{1}, 1, api.ErrShort},
	}
	for _, c := range cases {
		checkTakeRow(t, c.b, c.most, nil, 0, c.e)
	}
}

func TestTakeRowOfGreatLengths(t *testing.T) {
	for _, v := range manyNumbers() {
		if v < 100 {
			continue
		}
		b := joined(handNumber(v), []byte("abc"))
		if v > math.MaxInt {
			checkTakeRow(t, b, math.MaxInt, nil, 0, api.ErrLong)
			continue
		}
		checkTakeRow(t, b, int(v), nil, 0, api.ErrShort)
		checkTakeRow(t, b, math.MaxInt, nil, 0, api.ErrShort)
		checkTakeRow(t, b, int(v)-1, nil, 0, api.ErrLong)
	}
}

func TestTakeRowOfTheEmptyRow(t *testing.T) {
	checkTakeRow(t, []byte{0}, 0, nil, 1, api.OK)
	checkTakeRow(t, []byte{0, 1, 2}, 0, nil, 1, api.OK)
	checkTakeRow(t, []byte{0, 1, 2}, 7, nil, 1, api.OK)
}

// P2.2: the inverse.

func TestTakeUndoesPutWhateverFollows(t *testing.T) {
	for _, v := range manyNumbers() {
		b := num.Put(nil, v)
		for _, tail := range tails() {
			checkTake(t, joined(b, tail), v, len(b), api.OK)
		}
	}
}

func TestTakeIntUndoesPutIntWhateverFollows(t *testing.T) {
	for _, n := range manyInts() {
		b := num.PutInt(nil, n)
		for _, tail := range tails() {
			checkTakeInt(t, joined(b, tail), n, len(b), api.OK)
		}
	}
}

func TestTakeRowUndoesPutRowWhateverFollows(t *testing.T) {
	for _, row := range manyRows() {
		b := num.PutRow(nil, row)
		for _, tail := range tails() {
			checkTakeRow(t, joined(b, tail), len(row), row, len(b), api.OK)
		}
	}
}

func TestUnfoldAndFoldUndoEachOther(t *testing.T) {
	for _, n := range manyInts() {
		if got := num.Unfold(num.Fold(n)); got != n {
			t.Errorf("Unfold(Fold(%d)) = %d", n, got)
		}
	}
	for _, v := range manyNumbers() {
		if got := num.Fold(num.Unfold(v)); got != v {
			t.Errorf("Fold(Unfold(%d)) = %d", v, got)
		}
	}
}

// anyBytes are bytes of which many begin with an encoding, good or nearly so.
func anyBytes(r *rand.Rand) []byte {
	b := someBytes(r, r.Intn(14))
	switch {
	case len(b) == 0:
	case r.Intn(2) == 0:
		b[0] = byte(240 + r.Intn(16))
	case r.Intn(2) == 0:
		b[0] = byte(r.Intn(14))
	}
	for i := range b {
		if i > 0 && r.Intn(4) == 0 {
			b[i] = 0
		}
	}
	return b
}

func TestEncodingUndoesDecoding(t *testing.T) {
	r := source()
	counts := [3]int{}
	for range 200000 {
		b := anyBytes(r)
		if v, size, e := num.Take(b); e == api.OK {
			counts[0]++
			if got := num.Put(nil, v); !bytes.Equal(got, b[:size]) {
				t.Errorf("%x was taken as %d, which is put as %x", b[:size], v, got)
			}
		}
		if n, size, e := num.TakeInt(b); e == api.OK {
			counts[1]++
			if got := num.PutInt(nil, n); !bytes.Equal(got, b[:size]) {
				t.Errorf("%x was taken as %d, which is put as %x", b[:size], n, got)
			}
		}
		if row, size, e := num.TakeRow(b, 100); e == api.OK {
			counts[2]++
			if got := num.PutRow(nil, row); !bytes.Equal(got, b[:size]) {
				t.Errorf("%x was taken as %x, which is put as %x", b[:size], row, got)
			}
		}
	}
	for i, n := range counts {
		if n < 10000 {
			t.Errorf("function %d decoded only %d times", i, n)
		}
	}
}

func TestDecodingARowOfAllKinds(t *testing.T) {
	r := source()
	for range 300 {
		v, n, row := someNumber(r), int(r.Uint64()), someBytes(r, r.Intn(600))
		b := num.PutRow(num.PutInt(num.Put(nil, v), n), row)
		gotV, size, e := num.Take(b)
		if e != api.OK || gotV != v {
			t.Fatalf("Take: %d, error %d, want %d", gotV, e, v)
		}
		b = b[size:]
		gotN, size, e := num.TakeInt(b)
		if e != api.OK || gotN != n {
			t.Fatalf("TakeInt: %d, error %d, want %d", gotN, e, n)
		}
		checkTakeRow(t, b[size:], 600, row, len(b)-size, api.OK)
	}
}

// P1: arguments stay as they were, results are new memory, and no state is kept.

// withSpare returns b in the middle of more memory, and all of that memory.
func withSpare(b []byte) (arg, all []byte) {
	mark := bytes.Repeat([]byte{0xa5}, 64)
	all = joined(mark, b, mark)
	return all[len(mark) : len(mark)+len(b)], all
}

// fill overwrites a list, its spare capacity too.
func fill(b []byte, x byte) {
	b = b[:cap(b)]
	for i := range b {
		b[i] = x
	}
}

func callAll(b, row []byte) {
	for _, v := range []uint64{0, 247, 248, 65536, greatest} {
		num.Put(b, v)
		num.PutInt(b, num.Unfold(v))
	}
	num.PutRow(b, row)
	num.PutRow(b, b)
	num.PutRow(row, b)
	num.Take(b)
	num.TakeInt(b)
	for _, most := range []int{-1, 0, 3, 1000} {
		num.TakeRow(b, most)
	}
}

func TestArgumentsStay(t *testing.T) {
	for _, b := range [][]byte{nil, {0}, {3}, []byte("\x03abc"), []byte("\x03abcd"), {248}, {248, 7}, {248, 248}, bytes.Repeat([]byte{255}, 9)} {
		for _, row := range [][]byte{nil, []byte("some text"), bytes.Repeat([]byte{7}, 300)} {
			arg, all := withSpare(b)
			rowArg, rowAll := withSpare(row)
			before, rowBefore := bytes.Clone(all), bytes.Clone(rowAll)
			callAll(arg, rowArg)
			if !bytes.Equal(all, before) || !bytes.Equal(rowAll, rowBefore) {
				t.Errorf("%x, %x: an argument's memory was changed", b, row)
			}
		}
	}
}

func equalLists(a, b [][]byte) bool {
	if len(a) != len(b) {
		return false
	}
	for i := range a {
		if !bytes.Equal(a[i], b[i]) {
			return false
		}
	}
	return true
}

// resultsOf returns every list that the functions make of b and row; b begins with the row abc.
func resultsOf(b, row []byte) [][]byte {
	taken, _, _ := num.TakeRow(b, 3)
	again, _, _ := num.TakeRow(b, 1000)
	return [][]byte{
		num.Put(b, 5), num.Put(b, 248), num.Put(b, greatest), num.Put(b, 5),
		num.PutInt(b, -3), num.PutInt(b, math.MinInt),
		num.PutRow(b, nil), num.PutRow(b, row), num.PutRow(nil, row), num.PutRow(b[:0], row), num.PutRow(b, b),
		taken, again,
	}
}

func TestResultsAreNewMemory(t *testing.T) {
	b, all := withSpare([]byte("\x03abcdef"))
	row, rowAll := withSpare([]byte("a row"))
	before, rowBefore := bytes.Clone(all), bytes.Clone(rowAll)
	wants := resultsOf(bytes.Clone(b), bytes.Clone(row))
	results := resultsOf(b, row)
	fill(all, 0x11)
	fill(rowAll, 0x11)
	if !equalLists(results, wants) {
		t.Errorf("a changed argument changed a result: %q", results)
	}
	copy(all, before)
	copy(rowAll, rowBefore)
	for i := range results {
		fill(results[i], 0x22)
		if !bytes.Equal(all, before) || !bytes.Equal(rowAll, rowBefore) {
			t.Errorf("result %d shares memory with an argument", i)
		}
		if !equalLists(results[i+1:], wants[i+1:]) {
			t.Errorf("result %d shares memory with another", i)
		}
	}
}

func TestNoStateIsKept(t *testing.T) {
	b := []byte("\x03abc")
	for range 3 {
		checkTakeRow(t, b, 3, []byte("abc"), 4, api.OK)
		checkTakeRow(t, b, 2, nil, 0, api.ErrLong)
		checkTake(t, b, 3, 1, api.OK)
		checkTake(t, []byte{248, 7}, 0, 0, api.ErrForm)
		checkTakeInt(t, b, -2, 1, api.OK)
		if got := num.Put(b, 300); !bytes.Equal(got, []byte("\x03abc\xf9\x2c\x01")) {
			t.Errorf("Put = %x", got)
		}
		if num.Fold(-7) != 13 || num.Unfold(13) != -7 {
			t.Error("Fold or Unfold of -7 and 13")
		}
	}
}
