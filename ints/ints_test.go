package ints_test

import (
	"bytes"
	"math"
	"math/big"
	"math/rand"
	"slices"
	"testing"

	"dragnet/api"
	"dragnet/ints"
	"dragnet/num"
	"dragnet/pfor"
)

// The helpers below follow the chapter's definitions by other means than the package does: the marks of the cells are one great number, and a granule is asked cell by cell. Numbers and lists are encoded by layers 2 and 4, which have tests of their own.

var none = api.Cell{}

func has(n int) api.Cell {
	return api.Cell{Has: true, N: n}
}

// full is a column of the given numbers.
func full(numbers ...int) []api.Cell {
	var l []api.Cell
	for _, n := range numbers {
		l = append(l, has(n))
	}
	return l
}

// blank is a column of n cells without a number.
func blank(n int) []api.Cell {
	return slices.Repeat([]api.Cell{none}, n)
}

// with is the column l, but for one cell.
func with(l []api.Cell, i int, cell api.Cell) []api.Cell {
	l = slices.Clone(l)
	l[i] = cell
	return l
}

func handFormed(l []api.Cell) bool {
	if len(l) > 4096 {
		return false
	}
	for _, cell := range l {
		if cell != none && cell != has(cell.N) {
			return false
		}
	}
	return true
}

// numbersOf are the numbers of the cells that have one.
func numbersOf(l []api.Cell) []int {
	var numbers []int
	for _, cell := range l {
		if cell.Has {
			numbers = append(numbers, cell.N)
		}
	}
	return numbers
}

// handMarks packs a bit for each cell.
func handMarks(l []api.Cell) []byte {
	marks := new(big.Int)
	for i, cell := range l {
		if cell.Has {
			marks.SetBit(marks, i, 1)
		}
	}
	b := marks.FillBytes(make([]byte, (len(l)+7)/8))
	slices.Reverse(b)
	return b
}

// raw lays the parts of a column one behind the other, right or wrong.
func raw(count uint64, marks, list []byte) []byte {
	return slices.Concat(num.Put(nil, count), marks, list)
}

// handPut is the encoding of the column l.
func handPut(l []api.Cell) []byte {
	return raw(uint64(len(l)), handMarks(l), pfor.PutInts(nil, numbersOf(l)))
}

// handTake reads the column that b begins with; it takes any marks and any list, and then asks for the column's encoding.
func handTake(b []byte) (l []api.Cell, size int, e api.Errno) {
	count, start, e := num.Take(b)
	if e != api.OK || count > 4096 || uint64(len(b)-start) < (count+7)/8 {
		return nil, 0, api.ErrForm
	}
	packed := slices.Clone(b[start : start+int(count+7)/8])
	numbers, _, e := pfor.TakeInts(b[start+len(packed):], 1<<20)
	if e != api.OK {
		return nil, 0, api.ErrForm
	}
	slices.Reverse(packed)
	marks := new(big.Int).SetBytes(packed)
	for i := range int(count) {
		cell := none
		if marks.Bit(i) == 1 {
			if len(numbers) == 0 {
				return nil, 0, api.ErrForm
			}
			cell, numbers = has(numbers[0]), numbers[1:]
		}
		l = append(l, cell)
	}
	want := handPut(l)
	if !bytes.HasPrefix(b, want) {
		return nil, 0, api.ErrForm
	}
	return l, len(want), api.OK
}

// handGranules cuts the column into its granules.
func handGranules(l []api.Cell) [][]api.Cell {
	var granules [][]api.Cell
	for len(l) > 16 {
		granules, l = append(granules, l[:16]), l[16:]
	}
	if len(l) > 0 {
		granules = append(granules, l)
	}
	return granules
}

// handZones sorts the numbers of each granule.
func handZones(l []api.Cell) []api.Zone {
	var zones []api.Zone
	for _, cells := range handGranules(l) {
		numbers := numbersOf(cells)
		slices.Sort(numbers)
		zone := api.Zone{}
		if len(numbers) > 0 {
			zone = api.Zone{Some: true, Lo: numbers[0], Hi: numbers[len(numbers)-1]}
		}
		zones = append(zones, zone)
	}
	return zones
}

// handWhere are the granules that contain a number that meets what is asked.
func handWhere(l []api.Cell, asked func(n int) bool) []int {
	var granules []int
	for g, cells := range handGranules(l) {
		if slices.ContainsFunc(numbersOf(cells), asked) {
			granules = append(granules, g)
		}
	}
	return granules
}

// columns of many kinds

func source() *rand.Rand {
	return rand.New(rand.NewSource(1))
}

func someBytes(r *rand.Rand, n int) []byte {
	b := make([]byte, n)
	r.Read(b)
	return b
}

// someColumn returns n cells: few of them with a number, half of them, or nearly all; small numbers or great ones.
func someColumn(r *rand.Rand, n int) []api.Cell {
	part := []int{0, 1, 3, 16, 50, 84, 99, 100}[r.Intn(8)]
	shift, base, l := r.Intn(65), r.Intn(100)-50, blank(n)
	for i := range l {
		if r.Intn(100) < part {
			l[i] = has(int(r.Uint64())>>shift + base)
		}
	}
	return l
}

// edgeSizes are the numbers of cells at which bytes of marks, granules, blocks, and the number's encoding begin or end.
func edgeSizes() []int {
	return []int{0, 1, 2, 7, 8, 9, 15, 16, 17, 23, 24, 25, 31, 32, 33, 40, 47, 48, 49, 63, 64, 65, 247, 248, 249, 255, 256, 257, 1000, 4031, 4032, 4033, 4079, 4080, 4081, 4088, 4089, 4095, 4096}
}

// edgeNumbers are integers at the ends of what an int, a zone and an encoding have.
func edgeNumbers() []int {
	return []int{
		0, 1, -1, 2, -2, 5, -5, 123, -123, 124, -124, 127, 128, 255, 256, -256, 1<<15 - 1, 1 << 15, 1<<31 - 1, 1 << 31, 1 << 32, -1 << 31, -1<<31 - 1, -1 << 32,
		1 << 53, 1<<53 + 1, 1 << 62, -1 << 62, math.MaxInt, math.MaxInt - 1, math.MinInt, math.MinInt + 1,
	}
}

// formed returns columns of many sizes.
func formed(r *rand.Rand) [][]api.Cell {
	list := [][]api.Cell{nil, {}}
	for _, n := range edgeNumbers() {
		list = append(list, full(n), append(blank(20), has(n)), append(full(n), blank(20)...), full(n, 0), full(-1, n, 1))
	}
	for _, n := range edgeSizes() {
		list = append(list, blank(n), slices.Repeat(full(-3), n), slices.Repeat(full(0), n))
		if n > 0 {
			list = append(list, with(blank(n), 0, has(9)), with(blank(n), n-1, has(-9)), with(slices.Repeat(full(4), n), n/2, none))
		}
		for range 8 {
			list = append(list, someColumn(r, n))
		}
	}
	return list
}

// unformed returns lists of cells that are no column.
func unformed(r *rand.Rand) [][]api.Cell {
	var list [][]api.Cell
	for _, n := range edgeNumbers() {
		if n != 0 {
			ghost := api.Cell{N: n}
			list = append(list, []api.Cell{ghost}, append(full(7, -7), ghost), append([]api.Cell{ghost}, full(7, -7)...), with(someColumn(r, 100), 50, ghost))
		}
	}
	for _, n := range edgeSizes() {
		if n > 0 {
			list = append(list, with(blank(n), n-1, api.Cell{N: 1}), with(slices.Repeat(full(2), n), 0, api.Cell{N: 2}), with(someColumn(r, n), r.Intn(n), api.Cell{N: -1}))
		}
	}
	for _, n := range []int{4097, 4098, 4112, 4113, 5000, 8192, 1 << 16, 1<<16 + 1} {
		list = append(list, blank(n), slices.Repeat(full(1), n), someColumn(r, n), with(blank(n), n-1, api.Cell{N: 1}))
	}
	return list
}

func checkFormed(t *testing.T, l []api.Cell, want bool) {
	t.Helper()
	if got := ints.Formed(l); got != want {
		t.Errorf("Formed(%.40v of %d cells) = %v, want %v", l, len(l), got, want)
	}
}

func checkPut(t *testing.T, b []byte, l []api.Cell, want []byte, e api.Errno) {
	t.Helper()
	got, gotE := ints.Put(b, l)
	if !bytes.Equal(got, want) || gotE != e {
		t.Errorf("Put(%.20x, %.40v of %d cells) = %.60x of %d bytes, error %d; want %.60x of %d bytes, error %d",
			b, l, len(l), got, len(got), gotE, want, len(want), e)
	}
}

func checkTake(t *testing.T, b []byte, l []api.Cell, size int, e api.Errno) {
	t.Helper()
	gotL, gotSize, gotE := ints.Take(b)
	if !slices.Equal(gotL, l) || gotSize != size || gotE != e {
		t.Errorf("Take(%.60x of %d bytes) = %.40v of %d cells, %d, error %d; want %.40v of %d cells, %d, error %d",
			b, len(b), gotL, len(gotL), gotSize, gotE, l, len(l), size, e)
	}
}

// checkTakeAny holds Take against the definition.
func checkTakeAny(t *testing.T, b []byte) (taken bool) {
	t.Helper()
	l, size, e := handTake(b)
	checkTake(t, b, l, size, e)
	return e == api.OK
}

// checkNoColumn asks that the bytes are refused, by the definition too.
func checkNoColumn(t *testing.T, b []byte) {
	t.Helper()
	checkTake(t, b, nil, 0, api.ErrForm)
	if checkTakeAny(t, b) {
		t.Errorf("%.60x is a column", b)
	}
}

func checkZones(t *testing.T, l []api.Cell, want []api.Zone) {
	t.Helper()
	if got := ints.Zones(l); !slices.Equal(got, want) {
		t.Errorf("Zones(%.40v of %d cells) = %.20v of %d, want %.20v of %d", l, len(l), got, len(got), want, len(want))
	}
}

func checkBelow(t *testing.T, l []api.Cell, n int, want []int) {
	t.Helper()
	if got := ints.Below(l, n); !slices.Equal(got, want) {
		t.Errorf("Below(%.40v of %d cells, %d) = %d, want %d", l, len(l), n, got, want)
	}
}

func checkAbove(t *testing.T, l []api.Cell, n int, want []int) {
	t.Helper()
	if got := ints.Above(l, n); !slices.Equal(got, want) {
		t.Errorf("Above(%.40v of %d cells, %d) = %d, want %d", l, len(l), n, got, want)
	}
}

// checkSides holds Below and Above against the numbers of each granule.
func checkSides(t *testing.T, l []api.Cell, n int) {
	t.Helper()
	checkBelow(t, l, n, handWhere(l, func(x int) bool { return x < n }))
	checkAbove(t, l, n, handWhere(l, func(x int) bool { return x > n }))
}

// near are some of the column's numbers and what stands beside them, and the ends of all integers.
func near(r *rand.Rand, l []api.Cell, most int) []int {
	list := []int{0, 1, -1, math.MinInt, math.MaxInt}
	numbers := numbersOf(l)
	for range min(most, len(numbers)) {
		n := numbers[r.Intn(len(numbers))]
		list = append(list, n, n+1, n-1)
	}
	return list
}

// P10.1: the chapter's example.

func TestExample(t *testing.T) {
	l := []api.Cell{has(5), none, has(7)}
	b := slices.Concat([]byte{3, 5}, pfor.PutList(nil, []uint64{10, 14}))
	checkFormed(t, l, true)
	checkPut(t, nil, l, b, api.OK)
	checkTake(t, b, l, len(b), api.OK)
	checkZones(t, l, []api.Zone{{Some: true, Lo: 5, Hi: 7}})
	checkBelow(t, l, 6, []int{0})
	checkBelow(t, l, 5, nil)
	checkAbove(t, l, 7, nil)
	checkAbove(t, l, 6, []int{0})
}

// P10.1: Formed.

func TestFormedOfEachSize(t *testing.T) {
	for n := range 4200 {
		checkFormed(t, blank(n), n <= 4096)
		checkFormed(t, slices.Repeat(full(n-1), n), n <= 4096)
	}
	for _, n := range []int{8192, 1 << 16, 1<<16 + 4096, 1 << 20} {
		checkFormed(t, blank(n), false)
		checkFormed(t, slices.Repeat(full(1), n), false)
	}
}

func TestFormedOfKnownColumns(t *testing.T) {
	checkFormed(t, nil, true)
	checkFormed(t, []api.Cell{}, true)
	checkFormed(t, []api.Cell{{}}, true)
	checkFormed(t, []api.Cell{{Has: true}}, true)
	checkFormed(t, []api.Cell{{N: 1}}, false)
	for _, n := range edgeNumbers() {
		checkFormed(t, full(n), true)
		checkFormed(t, []api.Cell{{N: n}}, n == 0)
		checkFormed(t, []api.Cell{none, has(n), {N: n}}, n == 0)
	}
	r := source()
	for _, l := range formed(r) {
		checkFormed(t, l, true)
	}
	for _, l := range unformed(r) {
		checkFormed(t, l, false)
	}
}

// A single cell without a number, but with an N, is found wherever it stands.
func TestFormedAsksEachCell(t *testing.T) {
	for _, n := range edgeSizes() {
		l := slices.Repeat(full(3), n)
		for i := range l {
			l[i] = none
			checkFormed(t, l, true)
			l[i] = api.Cell{N: 3}
			checkFormed(t, l, false)
			l[i] = has(3)
		}
	}
}

func TestFormedOfAnyCells(t *testing.T) {
	r, counts := source(), map[bool]int{}
	for range 20000 {
		l := make([]api.Cell, r.Intn(6))
		for i := range l {
			l[i] = api.Cell{Has: r.Intn(2) == 0, N: r.Intn(3) - 1}
		}
		counts[handFormed(l)]++
		checkFormed(t, l, handFormed(l))
	}
	if counts[true] < 1000 || counts[false] < 1000 {
		t.Errorf("formed, or not: %v", counts)
	}
}

// P10.1: Put.

type known struct {
	l []api.Cell
	b []byte
}

// knownColumns are columns whose bytes were found by hand.
func knownColumns() []known {
	least := slices.Repeat([]byte{255}, 9)
	return []known{
		{nil, []byte{0, 0}},
		{blank(1), []byte{1, 0, 0}},
		{full(0), []byte{1, 1, 1, 1, 0, 0, 0}},
		{full(-1), []byte{1, 1, 1, 1, 1, 0, 0}},
		{full(124), []byte{1, 1, 1, 1, 248, 248, 0, 0}},
		{full(math.MinInt), slices.Concat([]byte{1, 1, 1, 1}, least, []byte{0, 0})},
		{full(math.MaxInt), slices.Concat([]byte{1, 1, 1, 1, 255, 254}, least[:7], []byte{0, 0})},
		{[]api.Cell{has(5), none, has(7)}, []byte{3, 5, 2, 2, 10, 3, 0, 0x20}},
		{[]api.Cell{has(7), none, has(5)}, []byte{3, 5, 2, 2, 10, 3, 0, 0x04}},
		{[]api.Cell{none, has(5), has(7)}, []byte{3, 6, 2, 2, 10, 3, 0, 0x20}},
		{blank(8), []byte{8, 0, 0}},
		{blank(9), []byte{9, 0, 0, 0}},
		{append(blank(7), has(2)), []byte{8, 0x80, 1, 1, 4, 0, 0}},
		{append(blank(8), has(2)), []byte{9, 0, 1, 1, 1, 4, 0, 0}},
		{slices.Repeat(full(6), 8), []byte{8, 255, 8, 8, 12, 0, 0}},
		{slices.Repeat(full(6), 33), []byte{33, 255, 255, 255, 255, 1, 33, 32, 12, 0, 0, 1, 12, 0, 0}},
		{slices.Repeat([]api.Cell{has(6), none}, 33), []byte{66, 0x55, 0x55, 0x55, 0x55, 0x55, 0x55, 0x55, 0x55, 1, 33, 32, 12, 0, 0, 1, 12, 0, 0}},
		{blank(247), append([]byte{247}, make([]byte, 32)...)},
		{blank(248), append([]byte{248, 248}, make([]byte, 32)...)},
		{blank(256), append([]byte{249, 0, 1}, make([]byte, 33)...)},
		{blank(4096), append([]byte{249, 0, 16}, make([]byte, 513)...)},
		{append(blank(4095), has(-1)), slices.Concat([]byte{249, 0, 16}, make([]byte, 511), []byte{0x80, 1, 1, 1, 0, 0})},
	}
}

func TestKnownColumns(t *testing.T) {
	for _, c := range knownColumns() {
		checkPut(t, nil, c.l, c.b, api.OK)
		checkTake(t, c.b, c.l, len(c.b), api.OK)
	}
}

func TestPutFollowsTheDefinition(t *testing.T) {
	r := source()
	for _, l := range formed(r) {
		checkPut(t, nil, l, handPut(l), api.OK)
	}
	for n := range 300 {
		for range 8 {
			l := someColumn(r, n)
			checkPut(t, nil, l, handPut(l), api.OK)
		}
	}
	for n := 300; n <= 4096; n += 17 {
		l := someColumn(r, n)
		checkPut(t, nil, l, handPut(l), api.OK)
	}
}

func TestPutOfNoColumn(t *testing.T) {
	r := source()
	for _, l := range unformed(r) {
		checkPut(t, nil, l, nil, api.ErrArg)
		checkPut(t, []byte{1, 2, 3}, l, nil, api.ErrArg)
	}
}

func TestBytesStayAhead(t *testing.T) {
	r := source()
	for _, n := range edgeSizes() {
		l := someColumn(r, n)
		for _, ahead := range [][]byte{nil, {}, {0}, {255}, {3, 5, 2}, someBytes(r, 100), someBytes(r, 5000)} {
			checkPut(t, ahead, l, slices.Concat(ahead, handPut(l)), api.OK)
		}
	}
}

// P10.1: bytes that begin with no column.

func TestTakeOfWrongBytes(t *testing.T) {
	wrong := [][]byte{
		nil, {}, {0}, {1}, {2}, {8}, {9}, {247}, {248}, {255},
		{0, 1, 1, 0, 0, 0}, {0, 248, 0}, // a list that is not empty, or none
		{1, 0}, {1, 1}, {1, 1, 0}, {1, 0, 1, 1, 0, 0, 0}, {1, 1, 2, 2, 0, 0, 0}, {1, 1, 1}, {1, 1, 1, 1, 0, 0},
		{1, 2, 0}, {1, 3, 1, 1, 0, 0, 0}, {1, 0x80, 0}, {1, 255, 0}, {1, 255, 8, 8, 12, 0, 0}, // bits behind the last cell
		{3, 5, 1, 1, 10, 0, 0}, {3, 5, 3, 3, 10, 0, 0}, {3, 13, 2, 2, 10, 3, 0, 0x20}, {3, 5, 2, 2, 10, 3, 0, 0x60},
		{3, 5, 2, 2, 10, 4, 0, 0x40}, {3, 5, 2, 1, 10, 0, 0, 1, 14, 0, 0}, // another width, and other blocks, than the list's
		{9, 0, 0}, {9, 0, 2, 0}, {9, 0, 2, 1, 1, 4, 0, 0}, {8, 0}, {8, 0, 0x80, 1, 4, 0, 0},
		{248, 3, 5, 2, 2, 10, 3, 0, 0x20}, {249, 3, 0, 5, 2, 2, 10, 3, 0, 0x20}, {248, 0, 0}, {248, 247, 0}, // the number in too many bytes
		{3, 5, 248, 2, 2, 10, 3, 0, 0x20}, {1, 0, 248, 0},
	}
	for _, b := range wrong {
		checkNoColumn(t, b)
		checkNoColumn(t, b[:len(b):len(b)])
	}
}

// Behind the numbers of cells that no column has stands all that a column would need, for these and for the numbers that they may be taken for.
func TestTakeOfTooManyCells(t *testing.T) {
	counts := []uint64{
		4097, 4098, 4104, 4112, 5000, 8192, 1 << 16, 1<<16 + 3, 1 << 24, 1<<31 - 1, 1 << 31, 1<<31 + 3, 1<<32 - 1, 1 << 32, 1<<32 + 3, 1<<32 + 4096,
		1 << 40, 1 << 60, 1<<61 + 3, 1<<63 - 8, 1<<63 - 7, 1<<63 - 1, 1 << 63, 1<<63 + 3, 1<<64 - 8, 1<<64 - 7, 1<<64 - 1,
	}
	for _, count := range counts {
		for _, n := range []uint64{0, 3, 4096, 4097, count} {
			if n > 1<<16 {
				continue
			}
			empty := make([]byte, (n+7)/8)
			checkNoColumn(t, raw(count, empty, []byte{0}))
			checkNoColumn(t, raw(count, empty, make([]byte, 100)))
			l := slices.Repeat(full(1), int(n))
			checkNoColumn(t, raw(count, handMarks(l), pfor.PutInts(nil, numbersOf(l))))
		}
		checkNoColumn(t, raw(count, nil, nil))
		checkNoColumn(t, raw(count, nil, []byte{5, 2, 2, 10, 3, 0, 0x20}))
	}
	checkNoColumn(t, raw(4097, make([]byte, 512), []byte{0, 0}))
}

// Each bit behind the last cell must be 0.
func TestTakeOfUnusedBits(t *testing.T) {
	r := source()
	for n := range 300 {
		l := someColumn(r, n)
		b := handPut(l)
		marks := handMarks(l)
		start := len(num.Put(nil, uint64(n)))
		for i := n; i < 8*len(marks); i++ {
			wrong := slices.Clone(b)
			wrong[start+i/8] |= 1 << (i % 8)
			checkNoColumn(t, wrong)
			more := raw(uint64(n), wrong[start:start+len(marks)], pfor.PutInts(nil, append(numbersOf(l), 7)))
			checkNoColumn(t, more) // as many numbers as bits
		}
	}
}

// The list has exactly one number for each mark.
func TestTakeOfFewerOrMoreNumbers(t *testing.T) {
	r := source()
	for _, n := range edgeSizes() {
		l := someColumn(r, n)
		numbers := numbersOf(l)
		for _, other := range []int{0, 1, 2, len(numbers) - 2, len(numbers) - 1, len(numbers), len(numbers) + 1, len(numbers) + 2, n, n + 1, 4096, 4097, 5000} {
			if other < 0 {
				continue
			}
			list := slices.Concat(numbers, slices.Repeat([]int{3}, 5000))[:other]
			b := raw(uint64(n), handMarks(l), pfor.PutInts(nil, list))
			if other == len(numbers) {
				checkTake(t, b, l, len(b), api.OK)
			} else {
				checkNoColumn(t, b)
			}
		}
	}
}

// The numbers' list must be the one that layer 4 encodes.
func TestTakeOfAnotherList(t *testing.T) {
	l := slices.Repeat(full(6), 40)
	block := func(n byte) []byte { return []byte{n, 12, 0, 0} }
	right := raw(40, handMarks(l), slices.Concat([]byte{40}, block(32), block(8)))
	checkTake(t, right, l, len(right), api.OK)
	checkNoColumn(t, raw(40, handMarks(l), slices.Concat([]byte{40}, block(8), block(32))))
	checkNoColumn(t, raw(40, handMarks(l), slices.Concat([]byte{40}, block(20), block(20))))
	checkNoColumn(t, raw(40, handMarks(l), slices.Concat([]byte{40}, block(32))))
	checkNoColumn(t, raw(40, handMarks(l), slices.Concat([]byte{40}, block(32), block(9))))
	checkNoColumn(t, raw(40, handMarks(l), slices.Concat([]byte{248, 40}, block(32), block(8))))
	checkNoColumn(t, raw(40, handMarks(l), slices.Concat([]byte{255, 255, 255, 255, 255, 255, 255, 255, 255}, block(32), block(8))))
}

func TestTakeOfCutColumns(t *testing.T) {
	r := source()
	for _, n := range []int{0, 1, 2, 3, 8, 9, 16, 33, 64, 65, 250, 300} {
		for range 6 {
			b := handPut(someColumn(r, n))
			for size := range b {
				checkNoColumn(t, b[:size])
				checkNoColumn(t, slices.Clone(b[:size]))
			}
		}
	}
	b := handPut(slices.Repeat(full(1, 9), 2048))
	for size := 0; size < len(b); size += 7 {
		checkNoColumn(t, b[:size])
	}
}

func TestTakeOfChangedColumns(t *testing.T) {
	r, taken, refused := source(), 0, 0
	try := func(b []byte) {
		if checkTakeAny(t, b) {
			taken++
		} else {
			refused++
		}
	}
	for _, n := range []int{0, 1, 2, 3, 8, 9, 16, 33, 65, 250} {
		for range 4 {
			b := handPut(someColumn(r, n))
			for i := range b {
				was := b[i]
				for _, x := range []byte{0, 1, was + 1, was - 1, was ^ 0x80, ^was, 248, byte(r.Intn(256))} {
					b[i] = x
					try(b)
				}
				b[i] = was
				try(slices.Delete(slices.Clone(b), i, i+1))
				try(slices.Insert(slices.Clone(b), i, byte(r.Intn(3))))
			}
		}
	}
	if taken < 1000 || refused < 1000 {
		t.Errorf("%d changed columns were taken, %d were not", taken, refused)
	}
}

// someParts lays parts side by side that may belong to one column.
func someParts(r *rand.Rand) []byte {
	n := r.Intn(12)
	l := someColumn(r, n)
	numbers := numbersOf(l)
	switch r.Intn(4) {
	case 0:
		numbers = append(numbers, r.Intn(5))
	case 1:
		numbers = numbers[:r.Intn(len(numbers)+1)]
	}
	b := raw(uint64(n+r.Intn(4)/3), handMarks(l), pfor.PutInts(nil, numbers))
	return append(b, someBytes(r, r.Intn(3))...)
}

func TestTakeOfAnyBytes(t *testing.T) {
	r, taken, refused := source(), 0, 0
	for range 200000 {
		b := someParts(r)
		if r.Intn(3) == 0 {
			b = someBytes(r, r.Intn(9))
			for i := range b {
				b[i] %= 12
			}
		}
		if checkTakeAny(t, b) {
			taken++
		} else {
			refused++
		}
	}
	if taken < 10000 || refused < 10000 {
		t.Errorf("%d bytes were taken, %d were not", taken, refused)
	}
}

// checkAll tries all ways to lay up to most of the bytes behind b.
func checkAll(t *testing.T, b, alphabet []byte, most int) {
	t.Helper()
	checkTakeAny(t, b)
	if most > 0 {
		for _, x := range alphabet {
			checkAll(t, append(b[:len(b):len(b)], x), alphabet, most-1)
		}
	}
}

func TestTakeOfAllShortBytes(t *testing.T) {
	var all []byte
	for x := range 256 {
		all = append(all, byte(x))
	}
	checkAll(t, nil, all, 2)
	checkAll(t, nil, []byte{0, 1, 2, 3, 9, 248}, 7)
}

// P10.2: the inverse.

func TestTakeUndoesPut(t *testing.T) {
	r := source()
	for _, l := range formed(r) {
		b, e := ints.Put(nil, l)
		if e != api.OK {
			t.Fatalf("Put of %d cells: error %d", len(l), e)
		}
		for _, behind := range [][]byte{nil, {0}, {1}, {255}, b, someBytes(r, 50), make([]byte, 600)} {
			checkTake(t, slices.Concat(b, behind), l, len(b), api.OK)
		}
	}
}

func TestPutUndoesTake(t *testing.T) {
	r, taken := source(), 0
	for range 100000 {
		b := someParts(r)
		if l, size, e := ints.Take(b); e == api.OK {
			taken++
			checkFormed(t, l, true)
			checkPut(t, nil, l, b[:size], api.OK)
		}
	}
	if taken < 1000 {
		t.Errorf("%d columns were taken", taken)
	}
	for _, l := range formed(r) {
		b := append(handPut(l), someBytes(r, 9)...)
		got, size, e := ints.Take(b)
		if e != api.OK {
			t.Fatalf("Take of %d cells: error %d", len(l), e)
		}
		checkPut(t, nil, got, b[:size], api.OK)
	}
}

// Columns one behind the other are read one by one.
func TestColumnsInARow(t *testing.T) {
	r := source()
	list := formed(r)
	var b []byte
	for _, l := range list {
		out, e := ints.Put(b, l)
		if e != api.OK {
			t.Fatalf("Put of %d cells: error %d", len(l), e)
		}
		b = out
	}
	for _, l := range list {
		size := len(handPut(l))
		checkTake(t, b, l, size, api.OK)
		b = b[size:]
	}
	checkNoColumn(t, b)
}

// Two columns never have the same bytes, nor do one's begin with another's.
func TestEncodingsAreNoBeginnings(t *testing.T) {
	cells := []api.Cell{none, has(0), has(1), has(-1)}
	columns := [][]api.Cell{nil}
	for from, size := 0, 0; size < 4; size++ {
		for to := len(columns); from < to; from++ {
			for _, cell := range cells {
				columns = append(columns, append(slices.Clone(columns[from]), cell))
			}
		}
	}
	var encodings [][]byte
	for _, l := range columns {
		b, e := ints.Put(nil, l)
		if e != api.OK {
			t.Fatalf("Put(%v): error %d", l, e)
		}
		encodings = append(encodings, b)
	}
	slices.SortFunc(encodings, bytes.Compare)
	for i := 1; i < len(encodings); i++ {
		if bytes.HasPrefix(encodings[i], encodings[i-1]) {
			t.Errorf("%x begins with %x", encodings[i], encodings[i-1])
		}
	}
}

// P10.1: Zones.

func TestKnownZones(t *testing.T) {
	one := func(lo, hi int) api.Zone { return api.Zone{Some: true, Lo: lo, Hi: hi} }
	checkZones(t, nil, nil)
	checkZones(t, []api.Cell{}, nil)
	checkZones(t, blank(1), []api.Zone{{}})
	checkZones(t, blank(16), []api.Zone{{}})
	checkZones(t, blank(17), []api.Zone{{}, {}})
	checkZones(t, blank(33), []api.Zone{{}, {}, {}})
	checkZones(t, full(0), []api.Zone{one(0, 0)})
	checkZones(t, full(5), []api.Zone{one(5, 5)})
	checkZones(t, full(-5), []api.Zone{one(-5, -5)})
	checkZones(t, full(3, 9), []api.Zone{one(3, 9)})
	checkZones(t, full(9, 3), []api.Zone{one(3, 9)})
	checkZones(t, full(-3, -9), []api.Zone{one(-9, -3)})
	checkZones(t, full(-9, -3), []api.Zone{one(-9, -3)})
	checkZones(t, full(2, 9, -3, 4), []api.Zone{one(-3, 9)})
	checkZones(t, full(math.MaxInt, math.MinInt), []api.Zone{one(math.MinInt, math.MaxInt)})
	checkZones(t, full(math.MinInt, math.MinInt), []api.Zone{one(math.MinInt, math.MinInt)})
	checkZones(t, full(math.MaxInt, math.MaxInt), []api.Zone{one(math.MaxInt, math.MaxInt)})
	checkZones(t, []api.Cell{none, has(5), none, has(7), none}, []api.Zone{one(5, 7)})
	checkZones(t, []api.Cell{none, has(-5), none, has(-7), none}, []api.Zone{one(-7, -5)})
	checkZones(t, append(slices.Repeat(full(4), 16), has(6)), []api.Zone{one(4, 4), one(6, 6)})
	checkZones(t, append(blank(16), has(6)), []api.Zone{{}, one(6, 6)})
	checkZones(t, append(full(6), blank(16)...), []api.Zone{one(6, 6), {}})
	checkZones(t, slices.Repeat(full(8), 4096), slices.Repeat([]api.Zone{one(8, 8)}, 256))
}

// A single number is in the zone of its own granule alone.
func TestANumberInEachCell(t *testing.T) {
	for _, n := range []int{1, 2, 15, 16, 17, 31, 32, 33, 100, 4095, 4096} {
		l, zones := blank(n), make([]api.Zone, (n+15)/16)
		for i := range l {
			number := i - 20
			l[i], zones[i/16] = has(number), api.Zone{Some: true, Lo: number, Hi: number}
			checkZones(t, l, zones)
			checkBelow(t, l, number+1, []int{i / 16})
			checkBelow(t, l, number, nil)
			checkAbove(t, l, number-1, []int{i / 16})
			checkAbove(t, l, number, nil)
			l[i], zones[i/16] = none, api.Zone{}
		}
	}
}

// Each cell of a granule can have the least number and the greatest one.
func TestTheLeastAndTheGreatest(t *testing.T) {
	for size := 2; size <= 16; size++ {
		for lo := range size {
			for hi := range size {
				if lo == hi {
					continue
				}
				for _, mid := range []api.Cell{none, has(50), has(10), has(99)} {
					l := with(with(slices.Repeat([]api.Cell{mid}, size), lo, has(10)), hi, has(99))
					want := api.Zone{Some: true, Lo: 10, Hi: 99}
					checkZones(t, l, []api.Zone{want})
					checkZones(t, slices.Concat(blank(16), l), []api.Zone{{}, want})
				}
			}
		}
	}
}

func TestZonesFollowTheDefinition(t *testing.T) {
	r := source()
	for _, l := range formed(r) {
		checkZones(t, l, handZones(l))
	}
	for n := range 300 {
		for range 8 {
			l := someColumn(r, n)
			checkZones(t, l, handZones(l))
		}
	}
}

func TestZonesOfNoColumn(t *testing.T) {
	r := source()
	for _, l := range unformed(r) {
		checkZones(t, l, nil)
		for _, n := range near(r, l, 3) {
			checkBelow(t, l, n, nil)
			checkAbove(t, l, n, nil)
		}
	}
}

// P10.1, P10.3: Below and Above.

func TestKnownSides(t *testing.T) {
	l := slices.Concat(slices.Repeat(full(10, -4), 8), blank(16), full(7), blank(15), slices.Repeat(full(0), 16), full(11, 12))
	cases := []struct {
		n            int
		below, above []int
	}{
		{math.MinInt, nil, []int{0, 2, 3, 4}},
		{-5, nil, []int{0, 2, 3, 4}},
		{-4, nil, []int{0, 2, 3, 4}},
		{-3, []int{0}, []int{0, 2, 3, 4}},
		{-1, []int{0}, []int{0, 2, 3, 4}},
		{0, []int{0}, []int{0, 2, 4}},
		{1, []int{0, 3}, []int{0, 2, 4}},
		{6, []int{0, 3}, []int{0, 2, 4}},
		{7, []int{0, 3}, []int{0, 4}},
		{8, []int{0, 2, 3}, []int{0, 4}},
		{9, []int{0, 2, 3}, []int{0, 4}},
		{10, []int{0, 2, 3}, []int{4}},
		{11, []int{0, 2, 3}, []int{4}},
		{12, []int{0, 2, 3, 4}, nil},
		{13, []int{0, 2, 3, 4}, nil},
		{math.MaxInt, []int{0, 2, 3, 4}, nil},
	}
	for _, c := range cases {
		checkBelow(t, l, c.n, c.below)
		checkAbove(t, l, c.n, c.above)
	}
}

// Nothing is less than the least integer, nor greater than the greatest one; granules without a number are on no side.
func TestSidesAtTheEnds(t *testing.T) {
	ends := full(math.MinInt, math.MaxInt)
	checkBelow(t, ends, math.MinInt, nil)
	checkAbove(t, ends, math.MaxInt, nil)
	checkBelow(t, ends, math.MinInt+1, []int{0})
	checkAbove(t, ends, math.MaxInt-1, []int{0})
	checkBelow(t, ends, math.MaxInt, []int{0})
	checkAbove(t, ends, math.MinInt, []int{0})
	for _, n := range edgeNumbers() {
		for _, l := range [][]api.Cell{nil, {}, blank(1), blank(16), blank(40), blank(4096)} {
			checkBelow(t, l, n, nil)
			checkAbove(t, l, n, nil)
		}
		for _, m := range edgeNumbers() {
			checkSides(t, full(m), n)
			checkSides(t, append(blank(18), has(m)), n)
		}
	}
}

func TestSidesContainSuchANumber(t *testing.T) {
	r := source()
	for _, l := range formed(r) {
		for _, n := range near(r, l, 4) {
			checkSides(t, l, n)
		}
	}
	for n := range 120 {
		for range 6 {
			l := someColumn(r, n)
			for _, x := range near(r, l, 6) {
				checkSides(t, l, x)
			}
		}
	}
}

// P1: lists may have any size, arguments stay as they were, results are new memory, and no state is kept.

// Lists that are no columns may have any number of cells.
func TestManyCells(t *testing.T) {
	for _, l := range [][]api.Cell{blank(1 << 22), slices.Repeat(full(5, -5), 1<<21)} {
		checkFormed(t, l, false)
		checkPut(t, []byte{1}, l, nil, api.ErrArg)
		checkZones(t, l, nil)
		checkBelow(t, l, 0, nil)
		checkAbove(t, l, 0, nil)
	}
}

// Any number of bytes may stand behind a column, or behind what is none.
func TestManyBytes(t *testing.T) {
	behind := bytes.Repeat([]byte{1, 0, 5}, 1<<20)
	l := []api.Cell{has(5), none, has(7)}
	b := handPut(l)
	checkTake(t, append(b, behind...), l, len(b), api.OK)
	checkTake(t, append([]byte{248, 3}, behind...), nil, 0, api.ErrForm)
	checkPut(t, behind, l, slices.Concat(behind, b), api.OK)
}

// withSpare returns the list in the middle of more memory, and all of that memory.
func withSpare[T any](list []T, mark T) (arg, all []T) {
	marks := slices.Repeat([]T{mark}, 40)
	all = slices.Concat(marks, list, marks)
	return all[len(marks) : len(marks)+len(list)], all
}

// overwrite replaces all elements of a list, those of its spare capacity too.
func overwrite[T any](list []T, x T) {
	list = list[:cap(list)]
	for i := range list {
		list[i] = x
	}
}

func TestArgumentsStay(t *testing.T) {
	r := source()
	for _, list := range append(formed(r), unformed(r)...) {
		b, allB := withSpare(someBytes(r, r.Intn(30)), 0x5a)
		l, allL := withSpare(list, has(3))
		beforeB, beforeL := slices.Clone(allB), slices.Clone(allL)
		ints.Formed(l)
		ints.Put(b, l)
		ints.Put(b[:0], l)
		ints.Zones(l)
		ints.Below(l, 1)
		ints.Above(l, -1)
		if !slices.Equal(allB, beforeB) || !slices.Equal(allL, beforeL) {
			t.Errorf("%d cells: the memory of an argument was changed", len(list))
		}
	}
	for _, list := range formed(r) {
		for _, encoding := range [][]byte{handPut(list), handPut(list)[1:], handPut(list)[:1], someBytes(r, 20)} {
			b, all := withSpare(encoding, 0x5a)
			before := slices.Clone(all)
			ints.Take(b)
			if !bytes.Equal(all, before) {
				t.Errorf("%.60x: the memory of the argument was changed", encoding)
			}
		}
	}
}

// What stands in the spare capacity, and ahead of the argument, is no part of it.
func TestSpareCapacityIsNotRead(t *testing.T) {
	r := source()
	for _, list := range formed(r) {
		for _, mark := range []api.Cell{has(math.MinInt), has(math.MaxInt), {N: 1}} {
			l, _ := withSpare(list, mark)
			checkFormed(t, l, true)
			checkPut(t, nil, l, handPut(list), api.OK)
			checkZones(t, l, handZones(list))
			checkSides(t, l, 0)
		}
		b, _ := withSpare(handPut(list), 0)
		checkTake(t, b, list, len(b), api.OK)
		for range 3 {
			checkTake(t, b[:r.Intn(len(b))], nil, 0, api.ErrForm)
		}
	}
	checkPut(t, []byte{1, 2, 3}[:1], full(0), []byte{1, 1, 1, 1, 1, 0, 0, 0}, api.OK)
}

// checkMemory calls a function twice and finds out whether the results share memory with its argument or one another.
func checkMemory[A, R comparable](t *testing.T, name string, list []A, otherA A, otherR R, call func(list []A) []R) {
	t.Helper()
	arg, all := withSpare(list, otherA)
	before := slices.Clone(all)
	one, two := call(arg), call(arg)
	want := slices.Clone(one)
	overwrite(all, otherA)
	if !slices.Equal(one, want) || !slices.Equal(two, want) {
		t.Errorf("%s: a changed argument changed a result", name)
	}
	copy(all, before)
	overwrite(one, otherR)
	if !slices.Equal(all, before) || !slices.Equal(two, want) {
		t.Errorf("%s: a result shares memory", name)
	}
}

func TestResultsAreNewMemory(t *testing.T) {
	r := source()
	for _, n := range edgeSizes() {
		l := someColumn(r, n)
		encoding := handPut(l)
		for _, head := range [][]byte{nil, {1}, someBytes(r, 50)} {
			checkMemory(t, "Put's cells", l, has(77), 0x22, func(l []api.Cell) []byte {
				b, _ := ints.Put(head, l)
				return b
			})
			checkMemory(t, "Put's bytes", head, 0x11, 0x22, func(head []byte) []byte {
				b, _ := ints.Put(head, l)
				return b
			})
		}
		checkMemory(t, "Take", encoding, 0x11, has(77), func(b []byte) []api.Cell {
			l, _, _ := ints.Take(b)
			return l
		})
		checkMemory(t, "Zones", l, has(77), api.Zone{Lo: 5}, ints.Zones)
		checkMemory(t, "Below", l, has(77), -7, func(l []api.Cell) []int { return ints.Below(l, 20) })
		checkMemory(t, "Above", l, has(77), -7, func(l []api.Cell) []int { return ints.Above(l, -20) })
	}
}

func TestNoStateIsKept(t *testing.T) {
	l := []api.Cell{has(5), none, has(7)}
	b := []byte{3, 5, 2, 2, 10, 3, 0, 0x20}
	for range 3 {
		checkFormed(t, l, true)
		checkFormed(t, []api.Cell{{N: 1}}, false)
		checkPut(t, []byte{9}, l, append([]byte{9}, b...), api.OK)
		checkPut(t, nil, []api.Cell{{N: 1}}, nil, api.ErrArg)
		checkPut(t, nil, nil, []byte{0, 0}, api.OK)
		checkTake(t, b, l, 8, api.OK)
		checkTake(t, b[1:], nil, 0, api.ErrForm)
		checkTake(t, []byte{0, 0}, nil, 2, api.OK)
		checkZones(t, l, []api.Zone{{Some: true, Lo: 5, Hi: 7}})
		checkZones(t, []api.Cell{{N: 1}}, nil)
		checkZones(t, blank(17), []api.Zone{{}, {}})
		checkBelow(t, l, 6, []int{0})
		checkBelow(t, l, 5, nil)
		checkAbove(t, l, 6, []int{0})
		checkAbove(t, l, 7, nil)
	}
}
