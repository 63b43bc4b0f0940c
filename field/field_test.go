package field_test

import (
	"bytes"
	"fmt"
	"math"
	"math/big"
	"math/rand"
	"regexp"
	"slices"
	"strings"
	"testing"
	"unsafe"

	"dragnet/api"
	"dragnet/field"
)

// The helpers below follow the chapter's definitions by other means than the package does.

const (
	letters = "abcdefghijklmnopqrstuvwxyzABCDEFGHIJKLMNOPQRSTUVWXYZ"
	digits  = "0123456789"
	blanks  = "\t\n\r "
	least   = "-9223372036854775808"
	most    = "9223372036854775807"
)

var (
	keyForm    = regexp.MustCompile(`\A[a-zA-Z0-9_.\-]{1,32}\z`)
	numberForm = regexp.MustCompile(`\A(0|-?[1-9][0-9]*)\z`)
	fieldForm  = regexp.MustCompile(`(?s)\A([^=]*)=(.*)\z`)
)

// handNumber reads numbers of any size.
func handNumber(text string) (int, bool) {
	if !numberForm.MatchString(text) {
		return 0, false
	}
	n, _ := new(big.Int).SetString(text, 10)
	if !n.IsInt64() {
		return 0, false
	}
	return int(n.Int64()), true
}

func handIsKey(text string) bool {
	return keyForm.MatchString(text)
}

// handWords makes all blanks the same, and leaves out what is between two of them.
func handWords(line []byte) []string {
	text := string(line)
	for _, blank := range []string{"\t", "\n", "\r"} {
		text = strings.ReplaceAll(text, blank, " ")
	}
	return slices.DeleteFunc(strings.Split(text, " "), func(word string) bool { return word == "" })
}

func handField(word string) (api.Field, bool) {
	parts := fieldForm.FindStringSubmatch(word)
	if parts == nil || !handIsKey(parts[1]) {
		return api.Field{}, false
	}
	if n, ok := handNumber(parts[2]); ok {
		return number(parts[1], n), true
	}
	if len(parts[2]) >= 65 {
		return api.Field{}, false
	}
	return text(parts[1], parts[2]), true
}

// handRead collects the fields of all words, and takes the first ones only in the end.
func handRead(line []byte) []api.Field {
	var list []api.Field
	known := map[string]bool{}
	for _, word := range handWords(line) {
		if f, ok := handField(word); ok && !known[f.Key] {
			known[f.Key] = true
			list = append(list, f)
		}
	}
	return list[:min(len(list), 16)]
}

func number(key string, n int) api.Field {
	return api.Field{Key: key, Kind: api.FieldInt, Int: n}
}

func text(key, value string) api.Field {
	return api.Field{Key: key, Kind: api.FieldText, Text: value}
}

// lines of many kinds

func source() *rand.Rand {
	return rand.New(rand.NewSource(1))
}

func someBytes(r *rand.Rand, n int) []byte {
	b := make([]byte, n)
	r.Read(b)
	return b
}

// someOf returns n bytes of kinds.
func someOf(r *rand.Rand, kinds string, n int) string {
	b := make([]byte, n)
	for i := range b {
		b[i] = kinds[r.Intn(len(kinds))]
	}
	return string(b)
}

// pick returns one of the texts.
func pick(r *rand.Rand, texts ...string) string {
	return texts[r.Intn(len(texts))]
}

// someKey returns a key, often one of few.
func someKey(r *rand.Rand) string {
	switch r.Intn(4) {
	case 0:
		return someOf(r, letters+digits+"_.-", 1+r.Intn(32))
	case 1:
		return someOf(r, letters, 1)
	}
	return pick(r, "ms", "user", "Ms", "k", "a.b", "x-y", "_")
}

// someInt returns a number of any size, often near an edge.
func someInt(r *rand.Rand) int {
	n := int(r.Uint64()) >> r.Intn(64)
	switch r.Intn(6) {
	case 0:
		return math.MaxInt - r.Intn(3)
	case 1:
		return math.MinInt + r.Intn(3)
	case 2:
		return r.Intn(21) - 10
	}
	return n
}

// someNumber returns a number's text, or something near one.
func someNumber(r *rand.Rand) string {
	switch r.Intn(3) {
	case 0:
		return someOf(r, "0123456789-", 1+r.Intn(22))
	case 1:
		return pick(r, "", "-", "+", "0", "-0", "00") + fmt.Sprint(someInt(r)) + pick(r, "", "", "0", "x", "-")
	}
	return fmt.Sprint(someInt(r))
}

// someValue returns bytes without blanks, at most 64.
func someValue(r *rand.Rand) string {
	switch r.Intn(5) {
	case 0:
		return someNumber(r)
	case 1:
		return strings.Map(dropBlanks, string(someBytes(r, r.Intn(20))))
	case 2:
		return someOf(r, letters+digits+"=-/\x00\x0b\xff", 60+r.Intn(5))
	}
	return pick(r, "", "=", "a=b", "ann", "bob", "-0", "x\x00y", "ö", "\xff")
}

func dropBlanks(r rune) rune {
	if strings.ContainsRune(blanks, r) {
		return -1
	}
	return r
}

// someWord returns a field, or something near one.
func someWord(r *rand.Rand) string {
	key, value := someKey(r), someValue(r)
	switch r.Intn(12) {
	case 0:
		key = someOf(r, letters, 31+r.Intn(4))
	case 1:
		key = ""
	case 2:
		key += pick(r, "/", ":", "@", "[", "`", "{", "^", ",", "\x00", "\xff", "ö", "é=")
	case 3:
		value += someOf(r, "x1", 60+r.Intn(8))
	case 4:
		return pick(r, "error", "GET", "[5]", "-", "5", "/a?b", key)
	}
	return key + "=" + value
}

func someBlanks(r *rand.Rand, n int) string {
	return someOf(r, blanks, n)
}

// someLine returns up to n words, with blanks of all kinds.
func someLine(r *rand.Rand, n int) []byte {
	b := []byte(someBlanks(r, r.Intn(2)))
	for range r.Intn(n + 1) {
		b = append(b, someWord(r)...)
		b = append(b, someBlanks(r, 1+r.Intn(2))...)
	}
	if r.Intn(2) == 0 {
		b = bytes.TrimRight(b, blanks)
	}
	return b
}

// manyFields returns a line with n fields, whose keys begin with name.
func manyFields(name string, n int) string {
	var words []string
	for i := range n {
		words = append(words, fmt.Sprintf("%s%d=%d", name, i, i))
	}
	return strings.Join(words, " ")
}

// manyLines returns lines of all kinds, known ones too.
func manyLines(r *rand.Rand, n int) [][]byte {
	lines := [][]byte{nil, {}, []byte("ms=120 user=ann ms=5 n=-0 =x k="), []byte("a=b=c"), []byte(blanks)}
	for k := range 20 {
		lines = append(lines, []byte(manyFields("k", k)), []byte("a "+manyFields("m", k)+" k1=x"))
	}
	for range n {
		lines = append(lines, someLine(r, 8), someLine(r, 30), []byte(someWord(r)))
		lines = append(lines, someBytes(r, r.Intn(60)), []byte(someOf(r, "aA1=- \t\x00", r.Intn(30))))
	}
	return lines
}

func checkNumber(t *testing.T, text string, want int, ok bool) {
	t.Helper()
	if n, is := field.Number(text); n != want || is != ok {
		t.Errorf("Number(%.200q of %d bytes) = %d, %t; want %d, %t", text, len(text), n, is, want, ok)
	}
}

func checkIsKey(t *testing.T, text string, want bool) {
	t.Helper()
	if field.IsKey(text) != want {
		t.Errorf("IsKey(%.200q of %d bytes) = %t; want %t", text, len(text), !want, want)
	}
}

func checkRead(t *testing.T, line []byte, want []api.Field) {
	t.Helper()
	if got := field.Read(line); !slices.Equal(got, want) {
		t.Errorf("Read(%.600q of %d bytes) = %.600q; want %.600q", line, len(line), fmt.Sprint(got), fmt.Sprint(want))
	}
}

func checkGet(t *testing.T, line []byte, key string, want api.Field, ok bool) {
	t.Helper()
	if got, is := field.Get(line, key); got != want || is != ok {
		t.Errorf("Get(%.600q of %d bytes, %.100q) = %q, %t; want %q, %t", line, len(line), key, fmt.Sprint(got), is, fmt.Sprint(want), ok)
	}
}

func checkShow(t *testing.T, f api.Field, want string) {
	t.Helper()
	if got := field.Show(f); got != want {
		t.Errorf("Show(%q) = %.200q; want %.200q", fmt.Sprint(f), got, want)
	}
}

// checkLine holds Read and Get against known fields.
func checkLine(t *testing.T, line string, want ...api.Field) {
	t.Helper()
	checkRead(t, []byte(line), want)
	for _, f := range want {
		checkGet(t, []byte(line), f.Key, f, true)
	}
}

// checkAny holds Read and Get against the definitions, for the keys of the line and some others.
func checkAny(t *testing.T, line []byte) {
	t.Helper()
	want := handRead(line)
	checkRead(t, line, want)
	keys := []string{"", "ms", "absent", "=", string(line)}
	for _, word := range handWords(line) {
		key, _, _ := strings.Cut(word, "=")
		keys = append(keys, key, strings.ToUpper(key))
	}
	for _, key := range keys[:min(len(keys), 40)] {
		at := slices.IndexFunc(want, func(f api.Field) bool { return f.Key == key })
		if at < 0 {
			checkGet(t, line, key, api.Field{}, false)
			continue
		}
		checkGet(t, line, key, want[at], true)
	}
}

// P8.1: Number.

func TestKnownNumbers(t *testing.T) {
	for text, want := range map[string]int{
		"0": 0, "1": 1, "9": 9, "10": 10, "-1": -1, "-9": -9, "-10": -10, "120": 120, "100": 100, "-100": -100, "1234567890": 1234567890,
		"2147483647": 1<<31 - 1, "2147483648": 1 << 31, "-2147483648": -1 << 31, "-2147483649": -1<<31 - 1, "4294967296": 1 << 32,
		"1000000000000000000": 1e18, "9000000000000000000": 9e18, "-9000000000000000000": -9e18, "999999999999999999": 1e18 - 1,
		most: math.MaxInt, "9223372036854775806": math.MaxInt - 1, least: math.MinInt, "-9223372036854775807": math.MinInt + 1,
	} {
		checkNumber(t, text, want, true)
	}
}

func TestKnownTextsThatAreNoNumber(t *testing.T) {
	for _, text := range []string{
		"", "-", "--", "--1", "-0", "-00", "00", "01", "000", "-01", "010", "+", "+0", "+1", "+-1", "-+1", "1-", "0-", "1-1", "-1-", "-" + least,
		"1x", "x1", "x", "0x", "0x1", "0x1f", "0b1", "0o7", "1e3", "1E3", "1.0", "1.", ".1", "1_0", "_1", "1_", "1,000", "inf", "NaN", "nil",
		" 1", "1 ", " ", "\t1", "1\n", "1\x00", "\x001", "\x00", "-\x00", "0\x00", "1\xff", "\xff", "\xb2", "٣", "１", "²", "½", "−1",
		"/", ":", "1/", "1:", "/1", ":1", "a", "1a", "-a", "-1a",
		"9223372036854775808", "-9223372036854775809", "9223372036854775809", "9223372036854775817", "-9223372036854775818",
		"9999999999999999999", "-9999999999999999999", "10000000000000000000", "-10000000000000000000", "18446744073709551615",
		"18446744073709551616", "18446744073709551617", "-18446744073709551616", "36893488147419103232", "+" + most, "0" + most, "-0" + most,
		"-09223372036854775808", most + "0", least + "0", most + "x", least + "x", "99999999999999999999999999999999999999999",
	} {
		checkNumber(t, text, 0, false)
		if _, ok := handNumber(text); ok {
			t.Errorf("%q is a number's text", text)
		}
	}
}

// Digits without end, whatever they begin with.
func TestDigitsWithoutEnd(t *testing.T) {
	for n := 1; n <= 130; n++ {
		for _, c := range []string{"0", "1", "9"} {
			for _, sign := range []string{"", "-", "+"} {
				text := sign + strings.Repeat(c, n)
				want, ok := handNumber(text)
				checkNumber(t, text, want, ok)
				if n > 19 && ok {
					t.Errorf("%q is a number's text", text)
				}
			}
		}
	}
	for _, n := range []int{1000, 65536, 1 << 22} {
		checkNumber(t, strings.Repeat("9", n), 0, false)
		checkNumber(t, "-1"+strings.Repeat("0", n), 0, false)
		checkNumber(t, strings.Repeat("0", n)+"1", 0, false)
		checkNumber(t, strings.Repeat("0", n), 0, false)
		checkNumber(t, strings.Repeat("x", n), 0, false)
	}
}

func TestNumbersOfShortTexts(t *testing.T) {
	for x := range 256 {
		checkHandNumber(t, string([]byte{byte(x)}))
		for y := range 256 {
			checkHandNumber(t, string([]byte{byte(x), byte(y)}))
			checkHandNumber(t, string([]byte{'-', byte(x), byte(y)}))
			checkHandNumber(t, string([]byte{byte(x), '0', byte(y)}))
		}
	}
}

func checkHandNumber(t *testing.T, text string) {
	t.Helper()
	want, ok := handNumber(text)
	checkNumber(t, text, want, ok)
}

func TestAnyNumbers(t *testing.T) {
	r := source()
	numbers := 0
	for range 50000 {
		text := someNumber(r)
		checkHandNumber(t, text)
		if _, ok := handNumber(text); ok {
			numbers++
		}
	}
	if numbers < 10000 || numbers > 40000 {
		t.Errorf("%d of 50000 texts are a number's", numbers)
	}
	// Texts near the edges of all numbers.
	edge := new(big.Int).Lsh(big.NewInt(1), 63)
	for d := int64(-1000); d <= 1000; d++ {
		for range 2 {
			checkHandNumber(t, new(big.Int).Add(edge, big.NewInt(d)).String())
			edge.Neg(edge)
		}
	}
}

// P8.1: IsKey.

func TestKnownKeys(t *testing.T) {
	for _, key := range []string{"a", "z", "A", "Z", "0", "9", "_", ".", "-", "ms", "User", "a.b-c_d", "A_b.c-9", "...", "-1", "5", "_x", "x-", letters[:32], letters[20:]} {
		checkIsKey(t, key, true)
	}
	for _, key := range []string{
		"", " ", "a b", " a", "a ", "a=", "=", "=a", "a=b", "a\x00", "\x00", "a\n", "\n", "a\t", "ö", "a\xff", "\x80", "\xc1", "\u212a", "k\u0301",
		"a/b", "a:b", "a,b", "a+b", "a^b", "a`b", "a@b", "a[0]", "{a}", "a*", "\"a\"", "a'", "a\x7f", letters, letters[:33],
	} {
		checkIsKey(t, key, false)
	}
}

func TestKeysByLength(t *testing.T) {
	for n := range 300 {
		for _, c := range []string{"x", "X", "0", "_", ".", "-"} {
			checkIsKey(t, strings.Repeat(c, n), n >= 1 && n <= 32)
		}
		for _, c := range []string{" ", "=", "/", "\x00", "\xff"} {
			checkIsKey(t, strings.Repeat(c, n), false)
		}
	}
	checkIsKey(t, strings.Repeat("ö", 16), false)
	checkIsKey(t, strings.Repeat("k", 1<<22), false)
}

// Each byte, at each position of keys of some lengths.
func TestKeysByEachByte(t *testing.T) {
	good := 0
	for x := range 256 {
		c := string([]byte{byte(x)})
		is := strings.Contains(letters+digits+"_.-", c)
		if is {
			good++
		}
		for _, n := range []int{1, 2, 3, 31, 32} {
			for i := range n {
				checkIsKey(t, strings.Repeat("m", i)+c+strings.Repeat("m", n-1-i), is)
			}
		}
		checkIsKey(t, strings.Repeat(c, 33), false)
	}
	if good != 26+26+10+3 {
		t.Errorf("%d bytes can be part of a key", good)
	}
}

// The bytes on both sides of a, z, A, Z, 0, 9, _ . and -.
func TestEdgesOfKeyBytes(t *testing.T) {
	for _, c := range "`{@[/:^," {
		checkIsKey(t, string(c), false)
		checkIsKey(t, "k"+string(c), false)
		checkLine(t, string(c)+"=1 k"+string(c)+"=2 "+string(c)+"k=3")
	}
	for _, c := range "azAZ09_.-" {
		checkIsKey(t, string(c), true)
		checkLine(t, string(c)+"=1", number(string(c), 1))
	}
}

func TestAnyKeys(t *testing.T) {
	r := source()
	for range 20000 {
		key := someOf(r, letters+digits+"_.-", r.Intn(40))
		checkIsKey(t, key, handIsKey(key))
		key += someOf(r, "a`{@[/:^,=_ \x00\xff", r.Intn(3))
		checkIsKey(t, key, handIsKey(key))
	}
}

// P8.1: Read.

func TestKnownLines(t *testing.T) {
	checkLine(t, "ms=120 user=ann ms=5 n=-0 =x k=", number("ms", 120), text("user", "ann"), text("n", "-0"), text("k", ""))
	checkLine(t, "a=b=c", text("a", "b=c"))
	checkLine(t, "error user=ann", text("user", "ann"))
	checkLine(t, "2026-11-18T09:05:00Z level=WARN path=/a/b?c=d ms=-7", text("level", "WARN"), text("path", "/a/b?c=d"), number("ms", -7))
	checkLine(t, "x=1,y=2 z=3;", text("x", "1,y=2"), text("z", "3;"))
	checkLine(t, `msg="two words=3"`, text("msg", `"two`), text("words", `3"`))
}

func TestLinesWithoutFields(t *testing.T) {
	checkRead(t, nil, nil)
	for _, line := range []string{"", "a", "error", "one two three", "=", "==", "=x", "= =", "a =b", "a = b", "a\t=\tb", "/=1", "a/b=1", "a,=1", "ö=1", "\xff=1", "\x00=1", "a\x00=1", "a:b=c"} {
		checkLine(t, line)
	}
}

func TestLinesOfBlanks(t *testing.T) {
	for _, c := range blanks {
		for _, n := range []int{1, 2, 3, 100, 65536} {
			checkLine(t, strings.Repeat(string(c), n))
		}
	}
	checkLine(t, strings.Repeat(blanks, 100))
}

// Only the bytes 9, 10, 13 and 32 separate words; all others are parts of words.
func TestEachByteBetweenWords(t *testing.T) {
	separating := 0
	for x := range 256 {
		c := string([]byte{byte(x)})
		if x == 9 || x == 10 || x == 13 || x == 32 {
			separating++
			checkLine(t, "a=1"+c+"b=2", number("a", 1), number("b", 2))
			checkLine(t, c+"a=1"+c+c+"b=x"+c, number("a", 1), text("b", "x"))
			checkLine(t, "a="+c+"b=2", text("a", ""), number("b", 2))
			checkLine(t, "a"+c+"=1"+c+"b=2", number("b", 2))
			continue
		}
		checkLine(t, "a=x"+c+"b=2", text("a", "x"+c+"b=2"))
		checkLine(t, "a=x"+c, text("a", "x"+c))
		checkLine(t, "a="+c+"y b=2", text("a", c+"y"), number("b", 2))
		if !strings.Contains(letters+digits+"_.-=", c) {
			checkLine(t, c+"a=1 b=2", number("b", 2))
			checkLine(t, "a"+c+"=1 b=2", number("b", 2))
		}
	}
	if separating != len(blanks) {
		t.Errorf("%d bytes separate words", separating)
	}
	// Blanks of other scripts are none.
	checkLine(t, "a=x\u00a0b=2\u2003c\u0085d\u3000e", text("a", "x\u00a0b=2\u2003c\u0085d\u3000e"))
}

func TestWordsAtTheEnds(t *testing.T) {
	a, b := number("a", 1), text("b", "x")
	for _, line := range []string{"a=1 b=x", " a=1 b=x", "a=1 b=x ", " a=1 b=x ", "  a=1  b=x  ", "\n\ta=1\r\nb=x\r\n", "z a=1 z b=x z", "a=1 z z b=x"} {
		checkLine(t, line, a, b)
	}
	for _, line := range []string{"a=1", " a=1", "a=1 ", " a=1 ", "\na=1\n", "z a=1", "a=1 z", "= a=1", "a=1 ="} {
		checkLine(t, line, a)
	}
	checkLine(t, "k=", text("k", ""))
	checkLine(t, " k=", text("k", ""))
	checkLine(t, "k= ", text("k", ""))
	checkLine(t, "k=\n", text("k", ""))
}

func TestPlacesOfTheEqualsSign(t *testing.T) {
	checkLine(t, "a")
	checkLine(t, "=a")
	checkLine(t, "==a")
	checkLine(t, "a=", text("a", ""))
	checkLine(t, "a==", text("a", "="))
	checkLine(t, "a===", text("a", "=="))
	checkLine(t, "a=b=", text("a", "b="))
	checkLine(t, "a==b", text("a", "=b"))
	checkLine(t, "a=1=2", text("a", "1=2"))
	checkLine(t, "a=1=", text("a", "1="))
	checkLine(t, "a==1", text("a", "=1"))
	checkLine(t, "a/b=c=d")
	checkLine(t, "=a=b")
	checkLine(t, "a=b=c d=e", text("a", "b=c"), text("d", "e"))
}

func TestFieldsByLengthOfTheKey(t *testing.T) {
	for n := range 200 {
		for _, c := range []string{"k", "K", "7", "-"} {
			key := strings.Repeat(c, n)
			for _, value := range []string{"", "5", "x", strings.Repeat("y", 64)} {
				line := "a=0 " + key + "=" + value + " z=1"
				if n < 1 || n > 32 {
					checkLine(t, line, number("a", 0), number("z", 1))
					checkGet(t, []byte(line), key, api.Field{}, false)
					checkLine(t, key+"="+value)
					continue
				}
				want, _ := handField("k=" + value)
				want.Key = key
				checkLine(t, line, number("a", 0), want, number("z", 1))
				checkLine(t, key+"="+value, want)
			}
		}
	}
}

func TestFieldsByLengthOfTheValue(t *testing.T) {
	lengths := []int{255, 256, 65535, 65536, 65537, 1 << 20}
	for n := range 200 {
		lengths = append(lengths, n)
	}
	for _, n := range lengths {
		for _, c := range []string{"x", "=", "\x00", "\xff", "0", "9"} {
			value := strings.Repeat(c, n)
			want := text("k", value)
			if number, ok := handNumber(value); ok {
				want = api.Field{Key: "k", Kind: api.FieldInt, Int: number}
			}
			if n > 64 {
				checkLine(t, "k="+value)
				checkLine(t, "a=1 k="+value+" b=2", number("a", 1), number("b", 2))
				continue
			}
			checkLine(t, "k="+value, want)
			checkLine(t, "a=1 k="+value+" b=2", number("a", 1), want, number("b", 2))
		}
	}
	// Bytes count, not runes, and neither the key nor = is part of the value.
	checkLine(t, "k="+strings.Repeat("ö", 32), text("k", strings.Repeat("ö", 32)))
	checkLine(t, "k="+strings.Repeat("ö", 32)+"x")
	long := strings.Repeat("k", 32)
	checkLine(t, long+"="+strings.Repeat("x", 64), text(long, strings.Repeat("x", 64)))
	checkLine(t, long+"="+strings.Repeat("x", 65))
	checkLine(t, "k="+strings.Repeat("1", 64), text("k", strings.Repeat("1", 64)))
	checkLine(t, "k=-"+strings.Repeat("1", 63), text("k", "-"+strings.Repeat("1", 63)))
	checkLine(t, "k=-"+strings.Repeat("1", 64))
}

func TestKindsOfValues(t *testing.T) {
	checkLine(t, "k=0", number("k", 0))
	checkLine(t, "k="+least+" l="+most, number("k", math.MinInt), number("l", math.MaxInt))
	checkLine(t, "k=-9223372036854775809 l=9223372036854775808", text("k", "-9223372036854775809"), text("l", "9223372036854775808"))
	for _, value := range []string{"", "-", "-0", "00", "01", "-01", "+1", "1x", "x1", "1.5", "0x1f", "1_0", "1,0", "1e3", "\x001", "1\x00", "\xff", "ö", "１", "99999999999999999999"} {
		checkLine(t, "k="+value, text("k", value))
	}
}

func TestKeysAreCaseSensitive(t *testing.T) {
	checkLine(t, "ms=1 Ms=2 mS=3 MS=4 ms=5 MS=6", number("ms", 1), number("Ms", 2), number("mS", 3), number("MS", 4))
	checkGet(t, []byte("User=1"), "user", api.Field{}, false)
	checkGet(t, []byte("user=1"), "User", api.Field{}, false)
}

func TestTheSameKeyAgain(t *testing.T) {
	checkLine(t, "k=1 k=2 k=3", number("k", 1))
	checkLine(t, "k=1 k=1", number("k", 1))
	checkLine(t, "k= k=2", text("k", ""))
	checkLine(t, "k=x k=2 k=", text("k", "x"))
	checkLine(t, "a=1 b=2 a=3 c=4 b=5 a=6", number("a", 1), number("b", 2), number("c", 4))
	checkLine(t, "k=1 kk=2 k.=3", number("k", 1), number("kk", 2), number("k.", 3))
	// A word that is not a field has no influence.
	long := strings.Repeat("x", 65)
	checkLine(t, "k="+long+" k=1", number("k", 1))
	checkLine(t, "k="+long+" k="+long+"x k=a k=1", text("k", "a"))
	checkLine(t, "k="+long+" k=", text("k", ""))
	checkLine(t, "k k =1 k=2", number("k", 2))
	checkLine(t, "k=1 k="+long, number("k", 1))
	checkLine(t, "a=1 k="+long+" b=2 k=3", number("a", 1), number("b", 2), number("k", 3))
	checkLine(t, "k= "+long+" k=1", text("k", ""))
}

// fieldsOf returns the fields of manyFields.
func fieldsOf(name string, n int) []api.Field {
	var list []api.Field
	for i := range n {
		list = append(list, number(fmt.Sprintf("%s%d", name, i), i))
	}
	return list
}

func TestCountsOfFields(t *testing.T) {
	for n := range 40 {
		line := manyFields("k", n)
		want := fieldsOf("k", min(n, 16))
		checkLine(t, line, want...)
		checkLine(t, " "+line+" ", want...)
		checkLine(t, strings.ReplaceAll(line, " ", " z = =z "), want...)
		if n > 0 { // a later word with an old key
			checkLine(t, line+" k0=x", want...)
			checkLine(t, line+" k0=x k0=y", want...)
		}
		more := line + " k0=0 new=x last=5"
		checkAny(t, []byte(more))
		if n >= 16 {
			checkLine(t, more, want...)
		}
	}
	new, last := text("new", "x"), number("last", 5)
	checkLine(t, manyFields("k", 14)+" k0=x new=x k13=y last=5", append(fieldsOf("k", 14), new, last)...)
	checkLine(t, manyFields("k", 15)+" k0=x new=x k14=y last=5", append(fieldsOf("k", 15), new)...)
	checkLine(t, manyFields("k", 16)+" k0=x new=x k15=y last=5", fieldsOf("k", 16)...)
	// Words that are not fields, and fields that are omitted, do not count.
	checkLine(t, strings.Repeat("k0=0 z ", 100)+manyFields("k", 16)+" new=x", fieldsOf("k", 16)...)
	checkLine(t, strings.Repeat("a=x ", 100)+manyFields("k", 16), append([]api.Field{text("a", "x")}, fieldsOf("k", 15)...)...)
	long := " long=" + strings.Repeat("x", 65) + " "
	checkLine(t, manyFields("k", 15)+strings.Repeat(long, 5)+"new=x last=5", append(fieldsOf("k", 15), new)...)
	checkLine(t, manyFields("k", 15)+long+"long=1 new=x", append(fieldsOf("k", 15), number("long", 1))...)
}

func TestAllShortLines(t *testing.T) {
	const edges = "aZ09-_=/: \t\n\r\x00\x0b\xff"
	for x := range 256 {
		for y := range 256 {
			checkRead(t, []byte{byte(x), byte(y)}, handRead([]byte{byte(x), byte(y)}))
			checkRead(t, []byte{byte(x), '=', byte(y)}, handRead([]byte{byte(x), '=', byte(y)}))
		}
	}
	for _, x := range []byte(edges) {
		for _, y := range []byte(edges) {
			for _, z := range []byte(edges) {
				checkAny(t, []byte{x, y, z})
				checkAny(t, []byte{x, '=', y, z})
				checkAny(t, []byte{'a', '=', x, y, z, '=', '5'})
			}
		}
	}
}

func TestAnyLines(t *testing.T) {
	r := source()
	var counts [17]int
	for _, line := range manyLines(r, 5000) {
		checkAny(t, line)
		counts[len(handRead(line))]++
	}
	for n, count := range counts {
		if count < 10 {
			t.Errorf("only %d lines have %d fields", count, n)
		}
	}
}

// P8.1: Get.

func TestGet(t *testing.T) {
	line := []byte("ms=120 user=ann ms=5 n=-0 =x k= big=" + strings.Repeat("x", 65) + " word")
	checkGet(t, line, "ms", number("ms", 120), true)
	checkGet(t, line, "user", text("user", "ann"), true)
	checkGet(t, line, "n", text("n", "-0"), true)
	checkGet(t, line, "k", text("k", ""), true)
	for _, key := range []string{"big", "word", "absent", "m", "mss", "MS", "", "=", "=x", "x", "ms=", "ms=120", "ms ", " ms", "ms=120 user", "a b", "\x00", "ann", "120"} {
		checkGet(t, line, key, api.Field{}, false)
		checkGet(t, nil, key, api.Field{}, false)
		checkGet(t, []byte(" \n"), key, api.Field{}, false)
	}
}

// A word that would be the field of a text that is no key is none.
func TestGetOfNoKey(t *testing.T) {
	for _, key := range []string{"", "/", "a/b", "ö", "\xff", "\x00", "a,", "a b", strings.Repeat("k", 33), strings.Repeat("k", 1000)} {
		checkGet(t, []byte(key+"=1"), key, api.Field{}, false)
		checkGet(t, []byte("a=1 "+key+"=x b=2"), key, api.Field{}, false)
	}
	checkGet(t, []byte("a=b=c"), "a=b", api.Field{}, false)
	checkGet(t, []byte("a=b=c"), "b", api.Field{}, false)
}

func TestGetBehindTheLastField(t *testing.T) {
	for n := range 20 {
		line := []byte(manyFields("k", n) + " last=5 last=6")
		if n < 16 {
			checkGet(t, line, "last", number("last", 5), true)
			continue
		}
		checkGet(t, line, "last", api.Field{}, false)
		checkGet(t, line, "k16", api.Field{}, false)
		checkGet(t, line, "k15", number("k15", 15), true)
		checkGet(t, line, "k0", number("k0", 0), true)
	}
	// The words ahead of it are fewer than 16 fields, as some of them are no fields or have old keys.
	line := []byte(strings.Repeat("k0=0 z /=1 ", 20) + manyFields("k", 15) + " last=5")
	checkGet(t, line, "last", number("last", 5), true)
}

// P8.1: Show.

func TestShow(t *testing.T) {
	for want, n := range map[string]int{"0": 0, "-1": -1, "7": 7, "120": 120, "-1000": -1000, most: math.MaxInt, least: math.MinInt} {
		checkShow(t, number("k", n), want)
		checkShow(t, api.Field{Key: "k", Kind: api.FieldInt, Int: n, Text: "other"}, want)
		checkShow(t, api.Field{Kind: api.FieldInt, Int: n}, want)
		checkShow(t, api.Field{Key: "k", Kind: api.FieldText, Int: n, Text: "other"}, "other")
	}
	for _, s := range []string{"", "ann", "a=b", "5", "-0", "a b", "\n", "\x00\xff", "ö", strings.Repeat("x", 64), strings.Repeat("x", 65), strings.Repeat("x ", 1<<20)} {
		checkShow(t, text("k", s), s)
		for _, kind := range []int{api.FieldText, 0, 3, 4, -1, -2, 257, 1 << 32, 1<<32 + 1, math.MaxInt, math.MinInt} {
			checkShow(t, api.Field{Kind: kind, Text: s}, s)
			checkShow(t, api.Field{Key: "k", Kind: kind, Int: 5, Text: s}, s)
		}
		checkShow(t, api.Field{Key: s, Kind: api.FieldInt, Text: s}, "0")
	}
	checkShow(t, api.Field{}, "")
}

func TestShowOfAnyNumbers(t *testing.T) {
	r := source()
	for range 20000 {
		n := someInt(r)
		checkShow(t, number("k", n), big.NewInt(int64(n)).String())
	}
	for n := -3000; n <= 3000; n++ {
		checkShow(t, number("k", n), big.NewInt(int64(n)).String())
	}
}

// P8.2: inverse.

func TestNumberReturnsTheNumberOfItsText(t *testing.T) {
	r := source()
	for range 20000 {
		n := someInt(r)
		checkNumber(t, big.NewInt(int64(n)).String(), n, true)
		checkNumber(t, field.Show(number("k", n)), n, true)
	}
	for n := -3000; n <= 3000; n++ {
		checkNumber(t, field.Show(number("k", n)), n, true)
		checkNumber(t, field.Show(number("k", math.MinInt+3000+n)), math.MinInt+3000+n, true)
		checkNumber(t, field.Show(number("k", math.MaxInt-3000+n)), math.MaxInt-3000+n, true)
	}
	for bit := range 63 {
		for d := -1; d <= 1; d++ {
			checkNumber(t, field.Show(number("k", 1<<bit+d)), 1<<bit+d, true)
			checkNumber(t, field.Show(number("k", -1<<bit+d)), -1<<bit+d, true)
		}
	}
}

// Whatever Number reads is the text that Show returns.
func TestShowReturnsTheTextThatNumberReads(t *testing.T) {
	r := source()
	for range 50000 {
		text := someNumber(r)
		if n, ok := field.Number(text); ok {
			checkShow(t, number("k", n), text)
		}
	}
}

// checkOnly takes a field as a line.
func checkOnly(t *testing.T, f api.Field) {
	t.Helper()
	checkIsKey(t, f.Key, true)
	checkLine(t, f.Key+"="+field.Show(f), f)
}

func TestAFieldIsTheOnlyOneOfItsLine(t *testing.T) {
	r := source()
	for range 20000 {
		checkOnly(t, number(someKey(r), someInt(r)))
		value := someValue(r)
		if _, isNumber := handNumber(value); !isNumber && len(value) <= 64 {
			checkOnly(t, text(someKey(r), value))
		}
	}
	for _, key := range []string{"k", "K", "-", "0", "_.-", strings.Repeat("k", 32)} {
		for _, n := range []int{0, 1, -1, math.MinInt, math.MaxInt} {
			checkOnly(t, number(key, n))
		}
		for _, value := range []string{"", "x", "=", "==", "a=1", "-0", "+1", "01", "9223372036854775808", "-9223372036854775809", "\x00", "\x0b\x0c", "\u00a0", "\xff", strings.Repeat("x", 64), strings.Repeat("9", 64)} {
			checkOnly(t, text(key, value))
		}
	}
}

func TestEachFieldOfALineIsTheOnlyOneOfItsOwn(t *testing.T) {
	for _, line := range manyLines(source(), 1000) {
		var words []string
		for _, f := range field.Read(line) {
			checkOnly(t, f)
			words = append(words, f.Key+"="+field.Show(f))
		}
		checkRead(t, []byte(strings.Join(words, " ")), field.Read(line))
	}
}

// P8.3: concatenation.

// checkJoin holds the fields of two lines, joined with each blank, against those of each.
func checkJoin(t *testing.T, one, two []byte) {
	t.Helper()
	want := field.Read(one)
	first := len(want)
	for _, f := range field.Read(two) {
		isNew := !slices.ContainsFunc(want[:first], func(g api.Field) bool { return g.Key == f.Key })
		if isNew && len(want) < 16 {
			want = append(want, f)
		}
	}
	for _, blank := range blanks {
		checkRead(t, slices.Concat(one, []byte(string(blank)), two), want)
	}
}

func TestKnownJoins(t *testing.T) {
	long := strings.Repeat("x", 65)
	parts := []string{
		"", " ", "a", "=", "a=", "=a", "a=1", "a=2", "A=1", "b=x", "a=1 b=2", "b=2 a=1", "a=" + long, "b=" + long, "k" + long + "=1", " a=1", "a=1 ", "z", "a=1 z", "z a=1",
	}
	for _, n := range []int{7, 8, 9, 15, 16, 17, 30} {
		parts = append(parts, manyFields("k", n), manyFields("m", n), manyFields("m", n)+" "+manyFields("k", 3), "a=5 "+manyFields("n", n))
	}
	for _, one := range parts {
		for _, two := range parts {
			checkJoin(t, []byte(one), []byte(two))
		}
	}
	checkLine(t, "a=1"+" "+"b=2", number("a", 1), number("b", 2))
	checkLine(t, "a=1"+" "+"a=2 b=3", number("a", 1), number("b", 3))
	checkLine(t, ""+" "+"a=1", number("a", 1))
	checkLine(t, "a=1"+" "+"", number("a", 1))
	checkLine(t, ""+" "+"")
	checkLine(t, "a="+" "+"b=2", text("a", ""), number("b", 2))
	checkLine(t, "a"+" "+"=1")
	checkLine(t, manyFields("k", 8)+" "+manyFields("m", 8), append(fieldsOf("k", 8), fieldsOf("m", 8)...)...)
	checkLine(t, manyFields("k", 8)+" "+manyFields("m", 9), append(fieldsOf("k", 8), fieldsOf("m", 8)...)...)
	checkLine(t, manyFields("k", 16)+" "+manyFields("m", 16), fieldsOf("k", 16)...)
	checkLine(t, manyFields("k", 15)+" "+manyFields("k", 16), fieldsOf("k", 16)...)
	checkLine(t, manyFields("k", 10)+" "+manyFields("k", 10)+" m0=0", append(fieldsOf("k", 10), number("m0", 0))...)
}

func TestAnyJoins(t *testing.T) {
	r := source()
	lines := manyLines(r, 1000)
	for range 10000 {
		checkJoin(t, lines[r.Intn(len(lines))], lines[r.Intn(len(lines))])
	}
	for _, line := range lines {
		checkJoin(t, line, line)
		checkJoin(t, line, nil)
		checkJoin(t, nil, line)
	}
}

// Great lines stay possible.
func TestGreatLines(t *testing.T) {
	const n = 1 << 22
	checkLine(t, strings.Repeat("x", n))
	checkLine(t, strings.Repeat("=", n))
	checkLine(t, strings.Repeat(" ", n))
	checkLine(t, strings.Repeat("x", n)+"=1")
	checkLine(t, "x="+strings.Repeat("1", n))
	checkLine(t, strings.Repeat(" ", n)+"k=1", number("k", 1))
	checkLine(t, "k=1"+strings.Repeat(" ", n), number("k", 1))
	checkLine(t, strings.Repeat("= ", n)+"k=1", number("k", 1))
	checkLine(t, strings.Repeat("k=1 ", n/4)+"l=2", number("k", 1), number("l", 2))
	checkLine(t, manyFields("k", 15)+" "+strings.Repeat("k14=x ", n/6)+"k15=15 k16=16", fieldsOf("k", 16)...)
	checkLine(t, manyFields("k", n/16), fieldsOf("k", 16)...)
	checkRead(t, someBytes(source(), n), handRead(someBytes(source(), n)))
}

// P1: arguments stay as they were, results are new memory, and no state is kept.

// withSpare returns b in the middle of more memory, and all of that memory.
func withSpare(b []byte, mark string) (arg, all []byte) {
	marks := []byte(strings.Repeat(mark, 400/len(mark)))
	all = slices.Concat(marks, b, marks)
	return all[len(marks) : len(marks)+len(b)], all
}

func TestArgumentsStay(t *testing.T) {
	for _, line := range manyLines(source(), 500) {
		for _, mark := range []string{"M", " ", "=", "m=1 ", "\xff"} {
			arg, all := withSpare(line, mark)
			before := slices.Clone(all)
			field.Read(arg)
			field.Get(arg, "ms")
			field.Get(arg, string(line))
			if !bytes.Equal(all, before) {
				t.Errorf("%q: the memory of an argument was changed", line)
			}
		}
		content := string(line)
		field.Number(content)
		field.IsKey(content)
		f := api.Field{Key: content, Kind: api.FieldText, Int: 5, Text: content}
		field.Show(f)
		if content != string(line) || f != (api.Field{Key: string(line), Kind: api.FieldText, Int: 5, Text: string(line)}) {
			t.Errorf("%q: a text was changed", line)
		}
	}
}

// What stands in the spare capacity, and ahead of the argument, is no part of it.
func TestSpareCapacityIsNotRead(t *testing.T) {
	for _, line := range manyLines(source(), 500) {
		for _, mark := range []string{"M", "5", "=", "m=1 "} {
			arg, _ := withSpare(line, mark)
			checkRead(t, arg, handRead(line))
		}
	}
	b := []byte("ab=12 cd=34")
	checkRead(t, b[:4], []api.Field{number("ab", 1)})
	checkRead(t, b[:3], []api.Field{text("ab", "")})
	checkRead(t, b[:2], nil)
	checkRead(t, b[:0], nil)
	checkRead(t, b[1:8], []api.Field{number("b", 12)})
	checkRead(t, b[2:], []api.Field{number("cd", 34)})
	checkGet(t, b[:8], "cd", api.Field{}, false)
	checkGet(t, b[:9], "cd", text("cd", ""), true)
	checkGet(t, b[:10], "cd", number("cd", 3), true)
}

func deepField(f api.Field) api.Field {
	f.Key, f.Text = strings.Clone(f.Key), strings.Clone(f.Text)
	return f
}

// deepFields copies every string, too.
func deepFields(list []api.Field) []api.Field {
	list = slices.Clone(list)
	for i := range list {
		list[i] = deepField(list[i])
	}
	return list
}

// overwrite replaces all elements of a list, those of its spare capacity too.
func overwrite[T any](list []T, x T) {
	list = list[:cap(list)]
	for i := range list {
		list[i] = x
	}
}

func TestResultsAreNewMemory(t *testing.T) {
	for _, content := range manyLines(source(), 500) {
		line, all := withSpare(content, "M")
		before := slices.Clone(all)
		one, two := field.Read(line), field.Read(line)
		want := deepFields(one)
		key := "ms"
		if len(one) > 0 {
			key = strings.Clone(one[len(one)-1].Key)
		}
		got, _ := field.Get(line, key)
		wantGot := deepField(got)
		overwrite(all, 'q')
		if !slices.Equal(one, want) || !slices.Equal(two, want) || got != wantGot {
			t.Errorf("%q: a changed argument changed a result", content)
		}
		copy(all, before)
		overwrite(one, api.Field{Key: "other", Kind: -1, Int: -1, Text: "other"})
		if !bytes.Equal(all, before) || !slices.Equal(two, want) || got != wantGot {
			t.Errorf("%q: a result shares memory", content)
		}
	}
}

// sharesMemory reports whether two strings have a byte of memory in common. (Strings of one byte may anyway.)
func sharesMemory(a, b string) bool {
	if len(a) < 2 || len(b) < 2 {
		return false
	}
	from, to := uintptr(unsafe.Pointer(unsafe.StringData(a))), uintptr(unsafe.Pointer(unsafe.StringData(b)))
	return from < to+uintptr(len(b)) && to < from+uintptr(len(a))
}

func TestTextsAreNewMemory(t *testing.T) {
	for _, s := range []string{"ab", "a b", "\x80\xff", "  ", letters, strings.Repeat("x", 1000)} {
		f := text("key", strings.Clone(s))
		one, two := field.Show(f), field.Show(f)
		if sharesMemory(one, f.Text) || sharesMemory(one, two) {
			t.Errorf("Show of %q shares memory", s)
		}
	}
	key := strings.Clone("user")
	line := []byte("ms=x1 user=ann other=bob")
	got, _ := field.Get(line, key)
	list := field.Read(line)
	texts := []string{key, got.Key, got.Text}
	for _, f := range list {
		texts = append(texts, f.Key, f.Text)
	}
	for i, a := range texts {
		for _, b := range texts[:i] {
			if sharesMemory(a, b) {
				t.Errorf("%q and %q share memory", a, b)
			}
		}
	}
}

func TestNoStateIsKept(t *testing.T) {
	for range 3 {
		checkLine(t, "a=1 b=x", number("a", 1), text("b", "x"))
		checkLine(t, "")
		checkLine(t, "b=2", number("b", 2))
		checkGet(t, []byte("b=2"), "a", api.Field{}, false)
		checkNumber(t, "5", 5, true)
		checkNumber(t, "x", 0, false)
		checkIsKey(t, "k", true)
		checkIsKey(t, "=", false)
		checkShow(t, number("k", 5), "5")
		checkShow(t, text("k", "x"), "x")
	}
}
