package token_test

import (
	"bytes"
	"fmt"
	"math/rand"
	"slices"
	"sort"
	"strings"
	"testing"
	"unsafe"

	"dragnet/api"
	"dragnet/token"
)

// The helpers below follow the chapter's definitions by other means than the package does.

const (
	small   = "abcdefghijklmnopqrstuvwxyz"
	capital = "ABCDEFGHIJKLMNOPQRSTUVWXYZ"
	digits  = "0123456789"
)

// handRuns reads the line as runes: those below 128 are bytes, and all others, right or wrong, are made of bytes from 128 on.
func handRuns(line []byte) []string {
	return strings.FieldsFunc(string(line), func(r rune) bool {
		return r < 128 && !strings.ContainsRune(small+capital+digits, r)
	})
}

// handLower replaces one letter after the other.
func handLower(text string) string {
	for i := range capital {
		text = strings.ReplaceAll(text, capital[i:i+1], small[i:i+1])
	}
	return text
}

func handCut(line []byte) []api.Token {
	var list []api.Token
	for place, run := range handRuns(line) {
		if len(run) >= 65 {
			run = ""
		}
		list = append(list, api.Token{Place: place, Term: handLower(run)})
	}
	return list
}

// handTerms collects the terms in a map.
func handTerms(line []byte) []string {
	known := map[string]bool{}
	for _, run := range handRuns(line) {
		if len(run) < 65 {
			known[handLower(run)] = true
		}
	}
	var list []string
	for term := range known {
		list = append(list, term)
	}
	sort.Strings(list)
	return list
}

// handIs counts the bytes that a term may have.
func handIs(text string) bool {
	n := 0
	for _, c := range []byte(text) {
		if c >= 128 || strings.IndexByte(small+digits, c) >= 0 {
			n++
		}
	}
	return n == len(text) && n > 0 && n < 65
}

// tokens returns a token for each term, with the places from 0 on.
func tokens(terms ...string) []api.Token {
	var list []api.Token
	for place, term := range terms {
		list = append(list, api.Token{Place: place, Term: term})
	}
	return list
}

// lines of many kinds

func source() *rand.Rand {
	return rand.New(rand.NewSource(1))
}

func someBytes(r *rand.Rand, n int) []byte {
	b := make([]byte, n)
	r.Read(b)
	return b
}

// The bytes on both sides of each edge of the token bytes, with others.
const edges = "azAZ09`{@[/:\x7f\x80\xff\xfe\x00 mM5_-\xc3\x84"

// someRun returns n token bytes.
func someRun(r *rand.Rand, n int) string {
	const high = "\x80\x81\xbf\xc1\xc3\x84\xe2\xf0\xfe\xff"
	kinds := []string{small, capital, digits, high, "aA", small + capital + digits + high}[r.Intn(6)]
	b := make([]byte, n)
	for i := range b {
		b[i] = kinds[r.Intn(len(kinds))]
	}
	return string(b)
}

// someGap returns 0 to 3 bytes that are no token bytes.
func someGap(r *rand.Rand) string {
	const kinds = " \t\n\r\x00=/.-_:@[`{|}~\x7f\x1f\"'"
	var b []byte
	for range r.Intn(4) {
		b = append(b, kinds[r.Intn(len(kinds))])
	}
	return string(b)
}

// someLine returns runs, some of them as long as a term may be or longer, with gaps.
func someLine(r *rand.Rand) []byte {
	var b []byte
	for range r.Intn(12) {
		n := 1 + r.Intn(3)
		switch r.Intn(8) {
		case 0:
			n = 62 + r.Intn(5)
		case 1:
			n = 1 + r.Intn(200)
		}
		b = append(b, someGap(r)...)
		b = append(b, someRun(r, n)...)
	}
	return append(b, someGap(r)...)
}

// someEdges returns up to n bytes at the edges of the token bytes.
func someEdges(r *rand.Rand, n int) []byte {
	b := make([]byte, r.Intn(n+1))
	for i := range b {
		b[i] = edges[r.Intn(len(edges))]
	}
	return b
}

// manyLines returns lines of all kinds, known ones too.
func manyLines(r *rand.Rand, n int) [][]byte {
	lines := [][]byte{nil, {}, []byte("GET /a-b HTTP/1.1"), []byte(edges)}
	for _, length := range []int{1, 2, 63, 64, 65, 66, 127, 128, 129, 1000} {
		run := someRun(r, length)
		for _, form := range []string{"*", "* ", " *", " * ", "a *", "* a", "A * a", "* *", "*-*-x"} {
			lines = append(lines, []byte(strings.ReplaceAll(form, "*", run)))
		}
	}
	for range n {
		lines = append(lines, someLine(r), someEdges(r, 12), someBytes(r, r.Intn(30)), someBytes(r, r.Intn(300)))
	}
	return lines
}

// show returns the tokens as text, the first ones of many.
func show(list []api.Token) string {
	text := fmt.Sprintf("%d tokens", len(list))
	for _, tok := range list[:min(len(list), 20)] {
		text += fmt.Sprintf(" %d:%q", tok.Place, tok.Term)
	}
	return text
}

func checkCut(t *testing.T, line []byte, want []api.Token) {
	t.Helper()
	if got := token.Cut(line); !slices.Equal(got, want) {
		t.Errorf("Cut(%.300q of %d bytes) = %s; want %s", line, len(line), show(got), show(want))
	}
}

func checkTerms(t *testing.T, line []byte, want []string) {
	t.Helper()
	if got := token.Terms(line); !slices.Equal(got, want) {
		t.Errorf("Terms(%.300q of %d bytes) = %.600q; want %.600q", line, len(line), got, want)
	}
}

func checkIs(t *testing.T, text string, want bool) {
	t.Helper()
	if token.Is(text) != want {
		t.Errorf("Is(%.300q of %d bytes) = %t; want %t", text, len(text), !want, want)
	}
}

func checkLower(t *testing.T, text, want string) {
	t.Helper()
	if got := token.Lower(text); got != want {
		t.Errorf("Lower(%.300q of %d bytes) = %.300q; want %.300q", text, len(text), got, want)
	}
}

// checkLine holds Cut and Terms against known tokens, whose terms may be empty.
func checkLine(t *testing.T, line string, terms ...string) {
	t.Helper()
	checkCut(t, []byte(line), tokens(terms...))
	distinct := slices.DeleteFunc(slices.Clone(terms), func(term string) bool { return term == "" })
	sort.Strings(distinct)
	checkTerms(t, []byte(line), slices.Compact(distinct))
}

// checkAny holds all functions against the definitions.
func checkAny(t *testing.T, line []byte) {
	t.Helper()
	checkCut(t, line, handCut(line))
	checkTerms(t, line, handTerms(line))
	checkIs(t, string(line), handIs(string(line)))
	checkLower(t, string(line), handLower(string(line)))
}

// P7.1: Cut and Terms.

func TestKnownLines(t *testing.T) {
	checkLine(t, "GET /a-b HTTP/1.1", "get", "a", "b", "http", "1", "1")
	checkTerms(t, []byte("GET /a-b HTTP/1.1"), []string{"1", "a", "b", "get", "http"})
	checkLine(t, "error user=ann ms=120", "error", "user", "ann", "ms", "120")
	checkLine(t, "2026-11-18T09:05:00Z [WARN] disk_full: 99.5%", "2026", "11", "18t09", "05", "00z", "warn", "disk", "full", "99", "5")
	checkLine(t, "one", "one")
	checkLine(t, "One1two2", "one1two2")
	checkLine(t, " one", "one")
	checkLine(t, "one ", "one")
	checkLine(t, "  one\t\n two  ", "one", "two")
	checkLine(t, "one,two", "one", "two")
	checkLine(t, "a b", "a", "b")
	checkLine(t, "a", "a")
	checkLine(t, ".a.", "a")
	checkLine(t, "a\x00b\x00", "a", "b")
	checkLine(t, "it's", "it", "s")
}

func TestLinesWithoutRuns(t *testing.T) {
	checkCut(t, nil, nil)
	checkTerms(t, nil, nil)
	for _, line := range []string{"", " ", "\x00", " .,\x00 ", "\t\n\r\v\f", "!\"#$%&'()*+,-./:;<=>?@[\\]^_`{|}~\x7f", strings.Repeat("- ", 1000)} {
		checkLine(t, line)
	}
}

// Every byte as a line of its own, and beside others.
func TestEachByte(t *testing.T) {
	runs := 0
	for x := range 256 {
		s := string([]byte{byte(x)})
		checkAny(t, []byte(s))
		if strings.Contains(small+capital+digits, s) || x >= 128 {
			runs++
			checkLine(t, s, handLower(s))
			checkLine(t, "p"+s+"q", "p"+handLower(s)+"q")
			checkLine(t, " "+s+"."+s+s, handLower(s), handLower(s+s))
			continue
		}
		checkLine(t, s)
		checkLine(t, "p"+s+"q", "p", "q")
		checkLine(t, s+"p"+s+s+"q"+s, "p", "q")
	}
	if runs != 26+26+10+128 {
		t.Errorf("%d bytes are token bytes", runs)
	}
}

// The bytes on both sides of a, z, A, Z, 0 and 9; 127 and 128.
func TestEdgesOfTokenBytes(t *testing.T) {
	checkLine(t, "`a{z|`{", "a", "z")
	checkLine(t, "@A[Z\\@[", "a", "z")
	checkLine(t, "/0:9;/:", "0", "9")
	checkLine(t, "a\x7fb\x80c\x81d", "a", "b\x80c\x81d")
	checkLine(t, "\x7f\x80\x7f\xff\x7f", "\x80", "\xff")
	checkLine(t, "\x00\x01\xfe\xff", "\xfe\xff")
	checkLine(t, "x`x{x@x[x/x:x\x7fx", "x", "x", "x", "x", "x", "x", "x", "x")
}

// Letters of other scripts, and bytes that form no valid UTF-8, are parts of runs as they stand.
func TestBytesFrom128On(t *testing.T) {
	checkLine(t, "Größe=ÄRGER", "größe", "\xc3\x84rger")
	checkLine(t, "日本 ログ", "日本", "ログ")
	checkLine(t, "K\u212aK \u0130 \ufffd", "k\u212ak", "\u0130", "\ufffd")
	checkLine(t, "no\u00a0blank\u2003here\u0085now", "no\u00a0blank\u2003here\u0085now")
	checkLine(t, "\xc3", "\xc3")
	checkLine(t, "\xc3 \x84", "\xc3", "\x84")
	checkLine(t, "\xff\xfeX\xc0\x80-\xed\xa0\x80-\xf5", "\xff\xfex\xc0\x80", "\xed\xa0\x80", "\xf5")
	checkLine(t, "\xc1\xdaA", "\xc1\xdaa")
	checkLine(t, "\xe2\x82", "\xe2\x82")
	for x := 128; x < 256; x++ {
		s := strings.Repeat(string([]byte{byte(x)}), 64)
		checkLine(t, s, s)
		checkLine(t, s+s[:1], "")
	}
}

func TestLengthsOfRuns(t *testing.T) {
	lengths := []int{255, 256, 257, 4096, 65535, 65536, 65537}
	for n := 1; n <= 200; n++ {
		lengths = append(lengths, n)
	}
	for _, n := range lengths {
		for _, c := range []string{"x", "X", "7", "\x80", "\xff"} {
			run := strings.Repeat(c, n)
			term := ""
			if n <= 64 {
				term = strings.ToLower(c)
				if c >= "\x80" {
					term = c
				}
				term = strings.Repeat(term, n)
			}
			checkLine(t, run, term)
			checkLine(t, " "+run, term)
			checkLine(t, run+" ", term)
			checkLine(t, "a "+run+" b", "a", term, "b")
			checkLine(t, run+"."+run, term, term)
			checkLine(t, run+" A", term, "a")
			checkLine(t, "A "+run, "a", term)
		}
	}
}

// A run without a term counts, wherever it stands, and is no term of the line.
func TestRunsWithoutATerm(t *testing.T) {
	long := strings.Repeat("Long", 20)
	checkLine(t, "a "+long+" b", "a", "", "b")
	checkLine(t, long+" a", "", "a")
	checkLine(t, "a "+long, "a", "")
	checkLine(t, long+" "+long+" a "+long+long+" b", "", "", "a", "", "b")
	checkLine(t, long, "")
	checkTerms(t, []byte(long), nil)
	checkTerms(t, []byte(long+" "+long), nil)
	checkTerms(t, []byte("b "+long+" a"), []string{"a", "b"})
}

func TestTermsAreOrderedAndDistinct(t *testing.T) {
	cases := []struct {
		line string
		want []string
	}{
		{"a a a", []string{"a"}},
		{"A a AA aA aa", []string{"a", "aa"}},
		{"b a b a c a", []string{"a", "b", "c"}},
		{"GET get Get gEt", []string{"get"}},
		// Terms that begin with other terms.
		{"abc ab a abcd", []string{"a", "ab", "abc", "abcd"}},
		{"ab1 ab aba ab0 abz b", []string{"ab", "ab0", "ab1", "aba", "abz", "b"}},
		{"a0 a a\x80", []string{"a", "a0", "a\x80"}},
		// Digits precede letters, and bytes from 128 on follow them, whatever their runes are.
		{"10 9 1 100 09", []string{"09", "1", "10", "100", "9"}},
		{"z 9 \x80 a \xff 0", []string{"0", "9", "a", "z", "\x80", "\xff"}},
		{"\xff \xc3\xbc \x80 \xc3\x9c z\xff za", []string{"za", "z\xff", "\x80", "\xc3\x9c", "\xc3\xbc", "\xff"}},
		{"\xf0\x90\x80\x80 \xef\xbf\xbd \xee\x80\x80", []string{"\xee\x80\x80", "\xef\xbf\xbd", "\xf0\x90\x80\x80"}},
		{"Z a B", []string{"a", "b", "z"}},
		{"\xc1 A \xe1 a", []string{"a", "\xc1", "\xe1"}},
	}
	for _, c := range cases {
		checkTerms(t, []byte(c.line), c.want)
		checkTerms(t, handTwice(c.line), c.want)
	}
	x := strings.Repeat("x", 63)
	checkTerms(t, []byte(x+"xx "+x+"y "+x+"x "+x+" "+x+"xx"), []string{x, x + "x", x + "y"})
}

// handTwice returns the runs of the line backwards, and then once more.
func handTwice(line string) []byte {
	runs := handRuns([]byte(line))
	slices.Reverse(runs)
	return []byte(strings.Join(runs, "--") + "\n" + line)
}

func TestAllShortLines(t *testing.T) {
	for x := range 256 {
		for y := range 256 {
			checkAny(t, []byte{byte(x), byte(y)})
		}
	}
	for _, x := range []byte(edges) {
		for _, y := range []byte(edges) {
			for _, z := range []byte(edges) {
				checkAny(t, []byte{x, y, z})
				checkAny(t, []byte{x, ' ', y, z})
				checkAny(t, []byte{x, y, '=', z})
			}
		}
	}
}

func TestAnyLines(t *testing.T) {
	r := source()
	without := 0
	for _, line := range manyLines(r, 5000) {
		checkAny(t, line)
		for _, run := range handRuns(line) {
			if len(run) > 64 {
				without++
			}
		}
	}
	if without < 1000 {
		t.Errorf("only %d runs without a term were tried", without)
	}
}

// The tokens, looked up in the line, are all there is of it besides gaps.
func TestTokensMakeUpTheLine(t *testing.T) {
	r := source()
	for range 5000 {
		var line, back []byte
		var want []api.Token
		for place := range r.Intn(10) {
			run := someRun(r, 1+r.Intn(64))
			line = append(append(append(line, run...), ' '), someGap(r)...)
			want = append(want, api.Token{Place: place, Term: handLower(run)})
			back = append(append(back, handLower(run)...), ' ')
		}
		checkCut(t, line, want)
		checkCut(t, back, want)
	}
}

// P7.1: Is.

func TestKnownTexts(t *testing.T) {
	for _, text := range []string{"a", "z", "0", "9", "get", "18t09", "\x80", "\xff", "größe", "\xc3\x84", "\xff\xfe", "\xc1", "0x1f", "\u212a", "\u0130"} {
		checkIs(t, text, true)
	}
	for _, text := range []string{
		"", " ", "A", "Z", "Get", "gEt", "geT", "M", "\x80A", "A\x80",
		"a b", "a-b", " a", "a ", "a=b", "a.", "-a", "_", "a_b", "\x00", "a\x00", "\x00a", "\n", "a\n", "\x7f", "\x80\x7f",
		"`", "{", "@", "[", "/", ":", "a`", "z{", "@a", "[z", "/0", "9:",
	} {
		checkIs(t, text, false)
	}
}

func TestIsByLength(t *testing.T) {
	for n := range 300 {
		for _, c := range []string{"x", "0", "\x80", "\xff"} {
			checkIs(t, strings.Repeat(c, n), n >= 1 && n <= 64)
		}
		for _, c := range []string{"X", "-", " ", "\x00"} {
			checkIs(t, strings.Repeat(c, n), false)
		}
	}
	checkIs(t, strings.Repeat("ö", 32), true)
	checkIs(t, strings.Repeat("ö", 33), false)
	checkIs(t, strings.Repeat("x", 1<<20), false)
}

// Each byte, at each position of terms of many lengths.
func TestIsByEachByte(t *testing.T) {
	for _, n := range []int{1, 2, 3, 63, 64} {
		for x := range 256 {
			c := byte(x)
			good := c >= 128 || strings.IndexByte(small+digits, c) >= 0
			for i := range n {
				b := bytes.Repeat([]byte("m"), n)
				b[i] = c
				checkIs(t, string(b), good)
				checkIs(t, string(b)+strings.Repeat("m", 65-n), false)
			}
		}
	}
}

func TestIsOfAnyTexts(t *testing.T) {
	r := source()
	terms := 0
	for range 20000 {
		text := someRun(r, r.Intn(70))
		if r.Intn(2) == 0 {
			text = handLower(text)
		}
		if r.Intn(4) == 0 {
			text += string(someEdges(r, 2))
		}
		checkIs(t, text, handIs(text))
		if handIs(text) {
			terms++
		}
	}
	if terms < 1000 || terms > 19000 {
		t.Errorf("%d of 20000 texts are terms", terms)
	}
}

// P7.1: Lower.

func TestKnownLowers(t *testing.T) {
	for _, c := range [][2]string{
		{"", ""},
		{"A", "a"},
		{"Z", "z"},
		{"GeT /A-b", "get /a-b"},
		{capital, small},
		{small, small},
		{digits, digits},
		{"@A[Z`a{z", "@a[z`a{z"},
		{"Az\xc1[", "az\xc1["},
		{"ÄÖÜ É Σ Я", "ÄÖÜ É Σ Я"},
		{"K\u212a \u0130I", "k\u212a \u0130i"},
		{"\xc1\xda\xe1\xfa", "\xc1\xda\xe1\xfa"},
		{"\x00\x01\x1f\x7f\x80\xff", "\x00\x01\x1f\x7f\x80\xff"},
		{"\xffA\xc3Z\xc3\x84", "\xffa\xc3z\xc3\x84"},
		{strings.Repeat("X", 65), strings.Repeat("x", 65)},
	} {
		checkLower(t, c[0], c[1])
		checkLower(t, c[1], c[1])
	}
}

func TestLowerOfEachByte(t *testing.T) {
	for x := range 256 {
		want := byte(x)
		if i := strings.IndexByte(capital, want); i >= 0 {
			want = small[i]
		}
		checkLower(t, string([]byte{byte(x)}), string([]byte{want}))
		checkLower(t, string([]byte{'Q', byte(x), 'q', byte(x)}), string([]byte{'q', want, 'q', want}))
	}
}

// P7.2: case.

// handUpper is the other way round than handLower.
func handUpper(line []byte) []byte {
	line = slices.Clone(line)
	for i, c := range line {
		if at := strings.IndexByte(small, c); at >= 0 {
			line[i] = capital[at]
		}
	}
	return line
}

func TestCaseHasNoInfluence(t *testing.T) {
	for _, line := range manyLines(source(), 3000) {
		low := token.Lower(string(line))
		if len(low) != len(line) || token.Lower(low) != low {
			t.Errorf("Lower(%q) = %q", line, low)
		}
		cut, terms := token.Cut(line), token.Terms(line)
		checkCut(t, []byte(low), cut)
		checkTerms(t, []byte(low), terms)
		checkCut(t, handUpper(line), cut)
		checkTerms(t, handUpper(line), terms)
	}
	for x := range 256 {
		s := string([]byte{'A', byte(x), 'z'})
		checkCut(t, []byte(token.Lower(s)), token.Cut([]byte(s)))
	}
}

// checkOnly takes a term as a line.
func checkOnly(t *testing.T, term string) {
	t.Helper()
	checkIs(t, term, true)
	checkLower(t, term, term)
	checkCut(t, []byte(term), []api.Token{{Place: 0, Term: term}})
	checkTerms(t, []byte(term), []string{term})
}

func TestATermIsItsOnlyToken(t *testing.T) {
	r := source()
	for x := range 256 {
		for y := range 256 {
			if term := string([]byte{byte(x), byte(y)}); handIs(term) {
				checkOnly(t, term)
			}
		}
		if term := string([]byte{byte(x)}); handIs(term) {
			checkOnly(t, term)
			checkOnly(t, strings.Repeat(term, 64))
		}
	}
	for n := 1; n <= 64; n++ {
		for range 50 {
			checkOnly(t, handLower(someRun(r, n)))
		}
	}
	for _, line := range manyLines(r, 500) {
		for _, term := range token.Terms(line) {
			checkOnly(t, term)
		}
	}
}

// A string is its only token and no other one exactly if it is a term.
func TestIsAgreesWithCut(t *testing.T) {
	r := source()
	for _, line := range append(manyLines(r, 1000), someEdges(r, 2), someEdges(r, 2)) {
		for n := range min(len(line), 70) {
			text := line[:n]
			checkIs(t, string(text), n > 0 && slices.Equal(token.Cut(text), []api.Token{{Term: string(text)}}))
		}
	}
}

// P7.3: concatenation.

// checkJoin holds the tokens of two lines, joined with a blank, against those of each.
func checkJoin(t *testing.T, one, two []byte) {
	t.Helper()
	want := token.Cut(one)
	n := len(want)
	for _, tok := range token.Cut(two) {
		want = append(want, api.Token{Place: n + tok.Place, Term: tok.Term})
	}
	joined := slices.Concat(one, []byte(" "), two)
	checkCut(t, joined, want)
	terms := append(token.Terms(one), token.Terms(two)...)
	sort.Strings(terms)
	checkTerms(t, joined, slices.Compact(terms))
}

func TestKnownJoins(t *testing.T) {
	long := strings.Repeat("y", 65)
	parts := []string{"", " ", "-", "a", "A", "a b", " a", "a ", "-a-", "a a", long, "a " + long, long + " a", "-" + long + "-", long[:64], long[:33], long[:32], "x " + long + long + " X", "\x80", "\xc3", "\x84b", "0"}
	for _, one := range parts {
		for _, two := range parts {
			checkJoin(t, []byte(one), []byte(two))
		}
	}
	checkLine(t, "a"+" "+"b", "a", "b")
	checkLine(t, long[:33]+" "+long[:32], long[:33], long[:32])
	checkLine(t, "a "+long+" "+long+" b", "a", "", "", "b")
	checkLine(t, ""+" "+"b", "b")
	checkLine(t, "a"+" "+"", "a")
	checkLine(t, ""+" "+"")
	checkLine(t, "\xc3"+" "+"\x84", "\xc3", "\x84")
}

func TestAnyJoins(t *testing.T) {
	r := source()
	lines := manyLines(r, 1000)
	for range 10000 {
		checkJoin(t, lines[r.Intn(len(lines))], lines[r.Intn(len(lines))])
	}
	for _, line := range lines {
		checkJoin(t, line, line)
		checkJoin(t, line, nil)
		checkJoin(t, nil, line)
	}
}

// Great lines stay possible.
func TestGreatLines(t *testing.T) {
	const n = 1 << 20
	checkLine(t, strings.Repeat("x", 1<<22), "")
	checkLine(t, strings.Repeat(" ", 1<<22))
	checkLine(t, strings.Repeat(" ", 1<<22)+"Z", "z")
	checkLine(t, "A "+strings.Repeat("x", 1<<22)+" Z", "a", "", "z")
	checkIs(t, strings.Repeat("x", 1<<22), false)
	checkLower(t, strings.Repeat("XÖ ", n), strings.Repeat("xÖ ", n))
	got := token.Cut(bytes.Repeat([]byte("Ab."), n))
	if len(got) != n {
		t.Errorf("%d tokens; want %d", len(got), n)
	}
	for place, tok := range got {
		if tok.Place != place || tok.Term != "ab" {
			t.Fatalf("token %d is %v", place, tok)
		}
	}
	checkTerms(t, bytes.Repeat([]byte("Ab.aB.a "), n/4), []string{"a", "ab"})
	checkAny(t, someBytes(source(), n))
}

// P1: arguments stay as they were, results are new memory, and no state is kept.

// withSpare returns b in the middle of more memory, and all of that memory.
func withSpare(b []byte, mark string) (arg, all []byte) {
	marks := []byte(strings.Repeat(mark, 400))
	all = slices.Concat(marks, b, marks)
	return all[len(marks) : len(marks)+len(b)], all
}

// fill overwrites bytes, their spare capacity too.
func fill(b []byte, x byte) {
	b = b[:cap(b)]
	for i := range b {
		b[i] = x
	}
}

func TestArgumentsStay(t *testing.T) {
	for _, line := range manyLines(source(), 300) {
		for _, mark := range []string{"M", " ", "\xff"} {
			arg, all := withSpare(line, mark)
			before := slices.Clone(all)
			token.Cut(arg)
			token.Terms(arg)
			if !bytes.Equal(all, before) {
				t.Errorf("%q: the memory of an argument was changed", line)
			}
		}
		text := string(line)
		token.Is(text)
		token.Lower(text)
		if text != string(line) {
			t.Errorf("%q: a text was changed", line)
		}
	}
}

// What stands in the spare capacity, and ahead of the argument, is no part of it.
func TestSpareCapacityIsNotRead(t *testing.T) {
	r := source()
	for _, line := range manyLines(r, 300) {
		for _, mark := range []string{"M", "\xff"} {
			arg, _ := withSpare(line, mark)
			checkCut(t, arg, handCut(line))
			checkTerms(t, arg, handTerms(line))
		}
	}
	b := []byte("abc def")
	checkCut(t, b[:2], tokens("ab"))
	checkCut(t, b[1:2], tokens("b"))
	checkCut(t, b[2:5], tokens("c", "d"))
	checkCut(t, b[:0], nil)
	checkTerms(t, b[4:5], []string{"d"})
	checkTerms(t, b[3:4], nil)
}

// deepTokens and deepTerms copy every string, too.
func deepTokens(list []api.Token) []api.Token {
	list = slices.Clone(list)
	for i := range list {
		list[i].Term = strings.Clone(list[i].Term)
	}
	return list
}

func deepTerms(list []string) []string {
	list = slices.Clone(list)
	for i := range list {
		list[i] = strings.Clone(list[i])
	}
	return list
}

// overwrite replaces all elements of a list, those of its spare capacity too.
func overwrite[T any](list []T, x T) {
	list = list[:cap(list)]
	for i := range list {
		list[i] = x
	}
}

func TestResultsAreNewMemory(t *testing.T) {
	for _, content := range manyLines(source(), 300) {
		line, all := withSpare(content, "M")
		before := slices.Clone(all)
		oneCut, twoCut, oneTerms, twoTerms := token.Cut(line), token.Cut(line), token.Terms(line), token.Terms(line)
		cut, terms := deepTokens(oneCut), deepTerms(oneTerms)
		fill(all, 'q')
		if !slices.Equal(oneCut, cut) || !slices.Equal(twoCut, cut) || !slices.Equal(oneTerms, terms) || !slices.Equal(twoTerms, terms) {
			t.Errorf("%q: a changed argument changed a result", content)
		}
		copy(all, before)
		overwrite(oneCut, api.Token{Place: -1, Term: "other"})
		overwrite(oneTerms, "other")
		if !bytes.Equal(all, before) || !slices.Equal(twoCut, cut) || !slices.Equal(twoTerms, terms) {
			t.Errorf("%q: a result shares memory", content)
		}
	}
}

// A text that has nothing to replace is copied, too. (Strings of one byte share theirs anyway.)
func TestLowerReturnsNewMemory(t *testing.T) {
	for _, s := range []string{"ab", "AB", "a-B", "\x80\xff", "  ", small, capital, strings.Repeat("x", 65), strings.Repeat("X", 1000)} {
		text := strings.Clone(s)
		one, two := token.Lower(text), token.Lower(text)
		if unsafe.StringData(one) == unsafe.StringData(text) || unsafe.StringData(one) == unsafe.StringData(two) {
			t.Errorf("Lower(%q) shares memory", s)
		}
	}
}

func TestNoStateIsKept(t *testing.T) {
	for range 3 {
		checkLine(t, "b A b", "b", "a", "b")
		checkLine(t, "")
		checkLine(t, "a", "a")
		checkTerms(t, []byte("c"), []string{"c"})
		checkIs(t, "a", true)
		checkIs(t, "A", false)
		checkLower(t, "A", "a")
		checkLower(t, "b", "b")
	}
}
