package crc_test

import (
	"bytes"
	"encoding/binary"
	"hash/crc32"
	"math/rand"
	"testing"

	"dragnet/api"
	"dragnet/crc"
)

// The helpers below follow the chapter's definitions by other means than the package does.

// slowSum is the chapter's definition, bit by bit.
func slowSum(b []byte) uint32 {
	r := ^uint32(0)
	for _, x := range b {
		r ^= uint32(x)
		for range 8 {
			out := r & 1
			r >>= 1
			if out == 1 {
				r ^= 0x82f63b78
			}
		}
	}
	return ^r
}

// handFrame lays a frame out with any length and the checksum that belongs to it.
func handFrame(length uint32, p []byte) []byte {
	b := binary.LittleEndian.AppendUint32(nil, length)
	b = append(b, p...)
	return binary.LittleEndian.AppendUint32(b, crc32.Checksum(b, crc32.MakeTable(crc32.Castagnoli)))
}

func goodFrame(p []byte) []byte {
	return handFrame(uint32(len(p)), p)
}

func spoilt(b []byte, at int) []byte {
	c := bytes.Clone(b)
	c[at] ^= 1
	return c
}

func joined(parts ...[]byte) []byte {
	return bytes.Join(parts, nil)
}

func someBytes(r *rand.Rand, n int) []byte {
	b := make([]byte, n)
	r.Read(b)
	return b
}

func source() *rand.Rand {
	return rand.New(rand.NewSource(1))
}

func mustWrap(t *testing.T, p []byte) []byte {
	t.Helper()
	b, e := crc.Wrap(p)
	if e != api.OK {
		t.Fatalf("Wrap of %d bytes: error %d", len(p), e)
	}
	return b
}

// P1.1: Sum and More.

func TestSumOfKnownBytes(t *testing.T) {
	cases := []struct {
		b    []byte
		want uint32
	}{
		{nil, 0},
		{[]byte{}, 0},
		{[]byte("123456789"), 0xe3069283},
		{[]byte{0, 0, 0, 0}, 0x48674bc7},
		{make([]byte, 32), 0x8a9136aa},
		{bytes.Repeat([]byte{0xff}, 32), 0x62a8ab43},
	}
	for _, c := range cases {
		if got := crc.Sum(c.b); got != c.want {
			t.Errorf("Sum(%x) = %08x, want %08x", c.b, got, c.want)
		}
	}
}

func TestSumFollowsTheDefinition(t *testing.T) {
	for x := range 256 {
		b := []byte{byte(x)}
		if got, want := crc.Sum(b), slowSum(b); got != want {
			t.Errorf("Sum(%x) = %08x, want %08x", b, got, want)
		}
	}
	r := source()
	for n := range 300 {
		b := someBytes(r, n)
		if got, want := crc.Sum(b), slowSum(b); got != want {
			t.Errorf("Sum(%x) = %08x, want %08x", b, got, want)
		}
	}
}

func TestMoreContinuesASumAnywhere(t *testing.T) {
	b := someBytes(source(), 100)
	want := slowSum(b)
	for i := range len(b) + 1 {
		if got := crc.More(slowSum(b[:i]), b[i:]); got != want {
			t.Errorf("cut at %d: %08x, want %08x", i, got, want)
		}
	}
}

func TestMoreTakesAnyChecksum(t *testing.T) {
	table := crc32.MakeTable(crc32.Castagnoli)
	r := source()
	for _, c := range []uint32{0, 1, 0x7fffffff, 0x80000000, 0xffffffff, 0x82f63b78, r.Uint32(), r.Uint32()} {
		for n := range 20 {
			b := someBytes(r, n)
			if got, want := crc.More(c, b), crc32.Update(c, table, b); got != want {
				t.Errorf("More(%08x, %x) = %08x, want %08x", c, b, got, want)
			}
		}
		if got := crc.More(c, nil); got != c {
			t.Errorf("More(%08x, nil) = %08x", c, got)
		}
		if got := crc.More(0, []byte{byte(c)}); got != crc.Sum([]byte{byte(c)}) {
			t.Errorf("More(0, %x) = %08x, which is not the Sum", byte(c), got)
		}
	}
}

// P1.1: Wrap.

func TestWrapLaysOutTheFrame(t *testing.T) {
	empty := []byte{0, 0, 0, 0, 0xc7, 0x4b, 0x67, 0x48}
	if got := mustWrap(t, nil); !bytes.Equal(got, empty) {
		t.Errorf("Wrap(nil) = %x, want %x", got, empty)
	}
	if got := mustWrap(t, []byte{}); !bytes.Equal(got, empty) {
		t.Errorf("Wrap of no bytes = %x, want %x", got, empty)
	}
	r := source()
	for _, n := range []int{1, 2, 3, 4, 7, 8, 255, 256, 257, 65535, 65536, 65537} {
		p := someBytes(r, n)
		if got := mustWrap(t, p); !bytes.Equal(got, goodFrame(p)) {
			t.Errorf("Wrap of %d bytes is not their frame", n)
		}
	}
}

func TestWrapAcceptsUpToTheLimit(t *testing.T) {
	p := someBytes(source(), api.MaxFrame)
	b := mustWrap(t, p)
	if !bytes.Equal(b, goodFrame(p)) {
		t.Error("the longest payload's frame is wrong")
	}
	if got, e := crc.Unwrap(b); e != api.OK || !bytes.Equal(got, p) {
		t.Errorf("Unwrap: %d bytes, error %d", len(got), e)
	}
	if got, n, e := crc.First(append(b, 1)); e != api.OK || n != len(b) || !bytes.Equal(got, p) {
		t.Errorf("First: %d bytes, size %d, error %d", len(got), n, e)
	}
	if got, n, e := crc.Split(b); e != api.OK || n != len(b) || len(got) != 1 || !bytes.Equal(got[0], p) {
		t.Errorf("Split: %d payloads, size %d, error %d", len(got), n, e)
	}
}

func TestWrapRejectsMore(t *testing.T) {
	for _, n := range []int{api.MaxFrame + 1, 2 * api.MaxFrame} {
		if b, e := crc.Wrap(make([]byte, n)); e != api.ErrLong || len(b) != 0 {
			t.Errorf("Wrap of %d bytes: %d bytes, error %d", n, len(b), e)
		}
	}
}

// P1.1: First, Unwrap and Split of one frame, good or wrong.

type wrongBytes struct {
	name   string
	b      []byte
	first  api.Errno
	unwrap api.Errno
}

func allWrongBytes() []wrongBytes {
	abc := goodFrame([]byte("abc"))
	none := goodFrame(nil)
	tooLong := make([]byte, api.MaxFrame+1)
	return []wrongBytes{
		{"nothing", nil, api.ErrShort, api.ErrShort},
		{"one byte", []byte{0}, api.ErrShort, api.ErrShort},
		{"a length alone", none[:4], api.ErrShort, api.ErrShort},
		{"seven bytes", none[:7], api.ErrShort, api.ErrShort},
		{"seven bytes and a length that is too great", bytes.Repeat([]byte{255}, 7), api.ErrShort, api.ErrShort},
		{"eight bytes and the greatest length", handFrame(api.MaxFrame, nil), api.ErrShort, api.ErrShort},
		{"eight bytes and a length one too great", handFrame(api.MaxFrame+1, nil), api.ErrLong, api.ErrLong},
		{"the greatest number as length", bytes.Repeat([]byte{255}, 8), api.ErrLong, api.ErrLong},
		{"a length whose highest bit alone is set", handFrame(1<<31, nil), api.ErrLong, api.ErrLong},
		{"all of a frame that is one byte too long", goodFrame(tooLong), api.ErrLong, api.ErrLong},
		{"a frame that is too long, and a wrong checksum", spoilt(goodFrame(tooLong), 9), api.ErrLong, api.ErrLong},
		{"a frame that lacks a byte", abc[:len(abc)-1], api.ErrShort, api.ErrShort},
		{"a spoilt frame that lacks a byte", spoilt(abc[:len(abc)-1], 4), api.ErrShort, api.ErrShort},
		{"a length one too great for the bytes", handFrame(4, []byte("abc")), api.ErrShort, api.ErrShort},
		{"a length one too small for the bytes", handFrame(2, []byte("abc")), api.ErrSum, api.ErrForm},
		{"a spoilt payload", spoilt(abc, 5), api.ErrSum, api.ErrSum},
		{"a spoilt checksum", spoilt(abc, len(abc)-1), api.ErrSum, api.ErrSum},
		{"a spoilt checksum of nothing", spoilt(none, 4), api.ErrSum, api.ErrSum},
		{"eight zero bytes", make([]byte, 8), api.ErrSum, api.ErrSum},
		{"a spoilt frame and a byte behind it", append(spoilt(abc, 5), 0), api.ErrSum, api.ErrForm},
	}
}

func TestWrongBytes(t *testing.T) {
	for _, c := range allWrongBytes() {
		if p, n, e := crc.First(c.b); e != c.first || len(p) != 0 || n != 0 {
			t.Errorf("%s: First gave %d bytes, size %d, error %d, want error %d", c.name, len(p), n, e, c.first)
		}
		if p, e := crc.Unwrap(c.b); e != c.unwrap || len(p) != 0 {
			t.Errorf("%s: Unwrap gave %d bytes, error %d, want error %d", c.name, len(p), e, c.unwrap)
		}
		want := c.first
		if len(c.b) == 0 {
			want = api.OK
		}
		if l, n, e := crc.Split(c.b); e != want || len(l) != 0 || n != 0 {
			t.Errorf("%s: Split gave %d payloads, size %d, error %d, want error %d", c.name, len(l), n, e, want)
		}
	}
}

func TestSplitStopsAtWrongBytes(t *testing.T) {
	front := joined(goodFrame([]byte("one")), goodFrame(nil))
	for _, c := range allWrongBytes() {
		if len(c.b) == 0 {
			continue
		}
		l, n, e := crc.Split(joined(front, c.b))
		if e != c.first || n != len(front) || len(l) != 2 || string(l[0]) != "one" || len(l[1]) != 0 {
			t.Errorf("%s: Split gave %q, size %d, error %d, want error %d", c.name, l, n, e, c.first)
		}
	}
}

func TestSplitStopsBeforeLaterFrames(t *testing.T) {
	a, b, c := goodFrame([]byte("a")), goodFrame([]byte("b")), goodFrame([]byte("c"))
	l, n, e := crc.Split(joined(a, spoilt(b, 4), c))
	if e != api.ErrSum || n != len(a) || len(l) != 1 || string(l[0]) != "a" {
		t.Errorf("Split gave %q, size %d, error %d", l, n, e)
	}
}

func TestBytesBehindAFrame(t *testing.T) {
	for _, p := range [][]byte{nil, {0}, []byte("abc")} {
		frame := goodFrame(p)
		for _, tail := range [][]byte{{0}, {255}, make([]byte, 8), frame} {
			b := joined(frame, tail)
			if got, n, e := crc.First(b); e != api.OK || n != len(frame) || !bytes.Equal(got, p) {
				t.Errorf("First(%x) = %x, %d, error %d", b, got, n, e)
			}
			if got, e := crc.Unwrap(b); e != api.ErrForm || len(got) != 0 {
				t.Errorf("Unwrap(%x) = %x, error %d", b, got, e)
			}
		}
	}
}

func TestAnyBytesEnd(t *testing.T) {
	r := source()
	for range 20000 {
		b := someBytes(r, r.Intn(24))
		if len(b) > 3 && r.Intn(4) > 0 { // else nearly every length is too great
			copy(b, []byte{byte(r.Intn(20)), 0, 0, 0})
		}
		if p, n, e := crc.First(b); e == api.OK && !bytes.Equal(goodFrame(p), b[:n]) {
			t.Errorf("First(%x) = %x, %d", b, p, n)
		}
		if p, e := crc.Unwrap(b); e == api.OK && !bytes.Equal(goodFrame(p), b) {
			t.Errorf("Unwrap(%x) = %x", b, p)
		}
		if l, n, e := crc.Split(b); (e == api.OK) != (n == len(b)) {
			t.Errorf("Split(%x) = %x, %d, error %d", b, l, n, e)
		}
	}
}

// P1.2: the inverse.

func TestUnwrapUndoesWrap(t *testing.T) {
	r := source()
	for n := range 400 {
		p := someBytes(r, n)
		b := mustWrap(t, p)
		if got, e := crc.Unwrap(b); e != api.OK || !bytes.Equal(got, p) {
			t.Errorf("Unwrap(Wrap(%x)) = %x, error %d", p, got, e)
		}
		if got, size, e := crc.First(b); e != api.OK || size != len(b) || !bytes.Equal(got, p) {
			t.Errorf("First(Wrap(%x)) = %x, %d, error %d", p, got, size, e)
		}
	}
}

// framesOf returns the frames of payloads one behind the other, and where each ends.
func framesOf(t *testing.T, payloads [][]byte) (all []byte, ends []int) {
	for _, p := range payloads {
		all = append(all, mustWrap(t, p)...)
		ends = append(ends, len(all))
	}
	return all, ends
}

// wantCut returns what Split must answer of frames with these ends, cut at n.
func wantCut(ends []int, n int) (count, size int, e api.Errno) {
	for _, end := range ends {
		if end > n {
			break
		}
		count, size = count+1, end
	}
	if size < n {
		return count, size, api.ErrShort
	}
	return count, size, api.OK
}

func equalLists(a, b [][]byte) bool {
	if len(a) != len(b) {
		return false
	}
	for i := range a {
		if !bytes.Equal(a[i], b[i]) {
			return false
		}
	}
	return true
}

func checkCuts(t *testing.T, payloads [][]byte) {
	t.Helper()
	all, ends := framesOf(t, payloads)
	for n := range len(all) + 1 {
		count, size, e := wantCut(ends, n)
		gotList, gotSize, gotE := crc.Split(all[:n])
		if !equalLists(gotList, payloads[:count]) || gotSize != size || gotE != e {
			t.Errorf("cut at %d: %x, %d, error %d, want %d payloads, %d, error %d", n, gotList, gotSize, gotE, count, size, e)
		}
	}
}

func TestSplitUndoesWrapAndBearsACutAnywhere(t *testing.T) {
	checkCuts(t, nil)
	checkCuts(t, [][]byte{nil})
	checkCuts(t, [][]byte{nil, nil, nil})
	checkCuts(t, [][]byte{[]byte("a"), nil, []byte("bc"), make([]byte, 40), {255}, nil})
	r := source()
	for range 20 {
		var payloads [][]byte
		for range r.Intn(8) {
			payloads = append(payloads, someBytes(r, r.Intn(30)))
		}
		checkCuts(t, payloads)
	}
}

func TestSplitOfManyFrames(t *testing.T) {
	const count = 10000
	all := bytes.Repeat(goodFrame([]byte("x")), count)
	if l, n, e := crc.Split(all); e != api.OK || n != len(all) || len(l) != count {
		t.Errorf("Split gave %d payloads, size %d, error %d", len(l), n, e)
	}
}

// P1.3: burst errors.

// checkChange holds that the frame with change laid over it at the place is not unwrapped.
func checkChange(t *testing.T, frame []byte, place int, change [4]byte) {
	t.Helper()
	b := bytes.Clone(frame)
	for i, x := range change {
		if place+i < len(b) {
			b[place+i] ^= x
		}
	}
	if bytes.Equal(b, frame) {
		return
	}
	if p, e := crc.Unwrap(b); e == api.OK || len(p) != 0 {
		t.Errorf("frame %x, changed to %x: unwrapped as %x, error %d", frame, b, p, e)
	}
}

func TestChangesOfEveryOneByte(t *testing.T) {
	frame := mustWrap(t, []byte("hello, log"))
	for place := range frame {
		for x := range 256 {
			checkChange(t, frame, place, [4]byte{byte(x)})
		}
	}
}

func TestChangesWithinFourBytes(t *testing.T) {
	r := source()
	for _, n := range []int{0, 1, 2, 3, 4, 5, 16, 100} {
		frame := mustWrap(t, someBytes(r, n))
		for place := range frame {
			checkChange(t, frame, place, [4]byte{255, 255, 255, 255})
			for range 500 {
				var change [4]byte
				for i := range change {
					if r.Intn(3) > 0 {
						change[i] = byte(r.Intn(256))
					}
				}
				checkChange(t, frame, place, change)
			}
		}
	}
}

func TestChangesByTheGenerator(t *testing.T) {
	// One bit longer, the generator's own pattern would go unnoticed; within four bytes it must not.
	for _, n := range []int{0, 3, 9} {
		frame := mustWrap(t, make([]byte, n))
		for place := range frame {
			for shift := range 32 {
				var change [4]byte
				binary.LittleEndian.PutUint32(change[:], 0x82f63b78<<shift)
				checkChange(t, frame, place, change)
			}
		}
	}
}

func TestEveryOtherLengthIsNotUnwrapped(t *testing.T) {
	p := []byte("0123456789")
	for length := range uint32(1 << 16) {
		if length == uint32(len(p)) {
			continue
		}
		if got, e := crc.Unwrap(handFrame(length, p)); e == api.OK || len(got) != 0 {
			t.Errorf("length %d: unwrapped as %x, error %d", length, got, e)
		}
	}
}

// P1: arguments stay as they were, results are new memory, and no state is kept.

// withSpare returns b in the middle of more memory, and all of that memory.
func withSpare(b []byte) (arg, all []byte) {
	mark := bytes.Repeat([]byte{0xa5}, 64)
	all = joined(mark, b, mark)
	return all[len(mark) : len(mark)+len(b)], all
}

func callAll(b []byte) {
	crc.Sum(b)
	crc.More(7, b)
	crc.Wrap(b)
	crc.Unwrap(b)
	crc.First(b)
	crc.Split(b)
}

func TestArgumentsStay(t *testing.T) {
	abc := goodFrame([]byte("abc"))
	for _, b := range [][]byte{nil, {1}, []byte("some text"), abc, spoilt(abc, 5), abc[:9], joined(abc, abc), joined(abc, abc[:5])} {
		arg, all := withSpare(b)
		before := bytes.Clone(all)
		callAll(arg)
		if !bytes.Equal(all, before) {
			t.Errorf("%x: the argument's memory was changed", b)
		}
	}
}

// fill overwrites a list, its spare capacity too.
func fill(b []byte, x byte) {
	b = b[:cap(b)]
	for i := range b {
		b[i] = x
	}
}

func TestResultsAreNewMemory(t *testing.T) {
	abc, de := goodFrame([]byte("abc")), goodFrame([]byte("de"))
	both, all := withSpare(joined(abc, de))
	one := both[:len(abc)]
	before := bytes.Clone(all)
	wrapped, _ := crc.Wrap(one)
	unwrapped, _ := crc.Unwrap(one)
	first, _, _ := crc.First(both)
	list, _, _ := crc.Split(both)
	if len(list) != 2 {
		t.Fatalf("Split gave %d payloads", len(list))
	}
	results := [][]byte{wrapped, unwrapped, first, list[0], list[1]}
	wants := [][]byte{goodFrame(abc), []byte("abc"), []byte("abc"), []byte("abc"), []byte("de")}
	fill(all, 0x11)
	if !equalLists(results, wants) {
		t.Errorf("a changed argument changed a result: %q", results)
	}
	copy(all, before)
	for i := range results {
		fill(results[i], 0x22)
		if !bytes.Equal(all, before) {
			t.Errorf("result %d shares memory with the argument", i)
		}
		if !equalLists(results[i+1:], wants[i+1:]) {
			t.Errorf("result %d shares memory with another", i)
		}
	}
}

func TestNoStateIsKept(t *testing.T) {
	frame := goodFrame([]byte("abc"))
	for range 3 {
		callAll([]byte("other bytes"))
		callAll(spoilt(frame, 5))
		if crc.Sum([]byte("123456789")) != 0xe3069283 {
			t.Error("Sum answers otherwise than before")
		}
		if p, e := crc.Unwrap(frame); e != api.OK || string(p) != "abc" {
			t.Error("Unwrap answers otherwise than before")
		}
	}
}
