package chime_test

import (
	"fmt"
	"math"
	"math/big"
	"math/rand"
	"strings"
	"testing"
	"unicode/utf8"

	"chime/api"
	"chime/chime"
)

// rows are the figures in their four rows, each in turn.
var rows = []string{"0123456789", "٠١٢٣٤٥٦٧٨٩", "۰۱۲۳۴۵۶۷۸۹", "０１２３４５６７８９"}

// edgeTimes are times at and beside those where something turns over.
func edgeTimes() []uint64 {
	l := []uint64{0, 429496729, 429496730, 1<<31 - 1, 1 << 31, 6442450944, 1<<63 + 1<<31}
	for shift := range 64 {
		l = append(l, 1<<shift-1, 1<<shift, 1<<shift+1)
	}
	return append(l, math.MaxUint64-1, math.MaxUint64)
}

// toldByFraction tells a time by whole numbers of any size.
func toldByFraction(v uint64) string {
	n := new(big.Int).SetUint64(v)
	n.Mul(n, big.NewInt(10_000_000_000))
	n.Rsh(n, 32)
	digits := fmt.Sprintf("%011s", n.String())
	return digits[:len(digits)-10] + "." + digits[len(digits)-10:]
}

func TestP4Tell(t *testing.T) {
	for _, c := range []struct {
		time uint64
		want string
	}{
		{0, "0.0000000000"}, {1, "0.0000000002"}, {2, "0.0000000004"}, {6442450944, "1.5000000000"},
		{1<<32 - 1, "0.9999999997"}, {1 << 32, "1.0000000000"}, {3 << 30, "0.7500000000"},
		{math.MaxUint64, "4294967295.9999999997"}, {math.MaxUint64 &^ math.MaxUint32, "4294967295.0000000000"},
	} {
		if got := chime.Tell(c.time); got != c.want {
			t.Errorf("P4: Tell(%d) = %q, want %q", c.time, got, c.want)
		}
	}
}

// someTimes are those at the edges, and some of every length.
func someTimes(r *rand.Rand) []uint64 {
	times := edgeTimes()
	for range 5000 {
		times = append(times, r.Uint64()>>r.Intn(64))
	}
	return times
}

func TestP4TellSome(t *testing.T) {
	for _, v := range someTimes(rand.New(rand.NewSource(4))) {
		if told, want := chime.Tell(v), toldByFraction(v); told != want {
			t.Errorf("P4: Tell(%d) = %q, want %q", v, told, want)
		}
	}
}

// symbol is one rune of a text: a figure as 0 to 9, a point, or ?.
type symbol struct {
	place int
	kind  byte
}

func symbolsOf(text string) []symbol {
	var l []symbol
	for place := 0; place < len(text); {
		r, size := utf8.DecodeRuneInString(text[place:])
		kind := byte('?')
		if r == '.' {
			kind = '.'
		}
		for _, row := range rows {
			for value, figure := range []rune(row) {
				if r == figure {
					kind = '0' + byte(value)
				}
			}
		}
		l = append(l, symbol{place, kind})
		place += size
	}
	return append(l, symbol{len(text), '$'})
}

// figuresOf takes at most so many figures off the front.
func figuresOf(l []symbol, most int) (string, []symbol) {
	figures := ""
	for len(figures) < most && l[0].kind >= '0' && l[0].kind <= '9' {
		figures += string(l[0].kind)
		l = l[1:]
	}
	return figures, l
}

// readByGrammar reads a time as the document's grammar says it, by whole numbers of any size.
func readByGrammar(text string) (uint64, api.Errno, int) {
	seconds, rest := figuresOf(symbolsOf(text), 10)
	if seconds == "" {
		return 0, api.ErrText, rest[0].place
	}
	fraction := "0"
	if rest[0].kind == '.' {
		fraction, rest = figuresOf(rest[1:], 12)
		if fraction == "" {
			return 0, api.ErrText, rest[0].place
		}
	}
	if rest[0].kind != '$' {
		return 0, api.ErrText, rest[0].place
	}
	n, _ := new(big.Int).SetString(seconds+fraction, 10)
	n.Lsh(n, 32)
	n.Div(n, new(big.Int).Exp(big.NewInt(10), big.NewInt(int64(len(fraction))), nil))
	if !n.IsUint64() {
		return 0, api.ErrRange, 0
	}
	return n.Uint64(), api.OK, 0
}

func checkRead(t *testing.T, text string, want uint64, wantErrno api.Errno, wantPlace int) {
	t.Helper()
	if v, e, place := chime.Read(text); v != want || e != wantErrno || place != wantPlace {
		t.Errorf("P4: Read(%q) = %d, %d, %d, want %d, %d, %d", text, v, e, place, want, wantErrno, wantPlace)
	}
}

func checkReadByGrammar(t *testing.T, text string) {
	t.Helper()
	v, e, place := readByGrammar(text)
	checkRead(t, text, v, e, place)
}

func TestP4ReadTimes(t *testing.T) {
	for _, c := range []struct {
		text string
		want uint64
	}{
		{"0", 0}, {"1", 1 << 32}, {"1.5", 6442450944}, {"0.5", 1 << 31}, {"00.50", 1 << 31},
		{"0000000001.000000000000", 1 << 32}, {"0.1", 429496729}, {"0.3", 1288490188},
		{"0.000000000232", 0}, {"0.000000000233", 1}, {"0.999999999999", math.MaxUint32},
		{"4294967295", math.MaxUint64 &^ math.MaxUint32}, {"4294967295.999999999999", math.MaxUint64},
		{"３３３", 333 << 32}, {"٤٢٩٤٩٦٧٢٩٥.٥", math.MaxUint64 - 1<<31 + 1}, {"۱.۵", 6442450944}, {"1٢۳４.５", 1234<<32 + 1<<31},
	} {
		checkRead(t, c.text, c.want, api.OK, 0)
	}
}

func TestP4ReadFaults(t *testing.T) {
	for _, c := range []struct {
		text  string
		errno api.Errno
		place int
	}{
		{"", api.ErrText, 0}, {".", api.ErrText, 0}, {".5", api.ErrText, 0}, {"1.", api.ErrText, 2}, {"1,5", api.ErrText, 1},
		{"1..5", api.ErrText, 2}, {"1.5.", api.ErrText, 3}, {"+1", api.ErrText, 0}, {"-0", api.ErrText, 0}, {" 1", api.ErrText, 0},
		{"1 ", api.ErrText, 1}, {"1\n", api.ErrText, 1}, {"1e3", api.ErrText, 1}, {"0x1", api.ErrText, 1}, {"1_0", api.ErrText, 1},
		{"01234567890", api.ErrText, 10}, {"1.0123456789012", api.ErrText, 14}, {"０１２３４５６７８９０", api.ErrText, 30}, {"٣.", api.ErrText, 3},
		{"３.５x", api.ErrText, 7}, {"1٫5", api.ErrText, 1}, {"1．5", api.ErrText, 1}, {"1\x00", api.ErrText, 1}, {"\ufeff1", api.ErrText, 0},
		{"1\xff", api.ErrText, 1}, {"\xff1", api.ErrText, 0}, {"1.\xef\xbc", api.ErrText, 2}, {"1.5\xd9", api.ErrText, 3}, {"1\uFFFD", api.ErrText, 1},
		{"\xc0\xb1", api.ErrText, 0}, {"1\xed\xa0\x80", api.ErrText, 1},
		{"4294967296", api.ErrRange, 0}, {"9999999999", api.ErrRange, 0}, {"4294967296.0", api.ErrRange, 0}, {"９９９９９９９９９９.９", api.ErrRange, 0},
		{"4294967296.", api.ErrText, 11}, {"4294967296x", api.ErrText, 10}, {"42949672960", api.ErrText, 10}, {"9999999999.0x", api.ErrText, 12},
	} {
		checkRead(t, c.text, 0, c.errno, c.place)
	}
	checkRead(t, strings.Repeat("0", 1<<20), 0, api.ErrText, 10)
	checkRead(t, "0."+strings.Repeat("９", 1<<20), 0, api.ErrText, 38)
}

func TestP4ReadEveryRune(t *testing.T) {
	figures := map[rune]bool{}
	for _, r := range strings.Join(rows, "") {
		figures[r] = true
	}
	for r := rune(0); r <= utf8.MaxRune; r++ {
		for _, ahead := range []string{"", "7", "7.", "7.5"} {
			text := ahead + string(r)
			wantErrno, wantPlace := api.ErrText, len(ahead)
			if figures[r] {
				wantErrno, wantPlace = api.OK, 0
			} else if text == "7." {
				wantPlace = len(text)
			}
			if _, e, place := chime.Read(text); e != wantErrno || place != wantPlace {
				t.Fatalf("P4: Read(%q): %d, %d, want %d, %d", text, e, place, wantErrno, wantPlace)
			}
		}
	}
}

func TestP4ReadEveryFigure(t *testing.T) {
	for _, row := range rows {
		for value, figure := range []rune(row) {
			checkRead(t, string(figure), uint64(value)<<32, api.OK, 0)
			checkRead(t, "0."+string(figure), uint64(value)<<32/10, api.OK, 0)
		}
	}
}

func TestP4ReadEveryCountOfFigures(t *testing.T) {
	for _, row := range rows {
		figures := []rune(row)
		for whole := range 13 {
			seconds := strings.Repeat(string(figures[1]), whole)
			checkReadByGrammar(t, seconds)
			for behind := range 15 {
				checkReadByGrammar(t, seconds+"."+strings.Repeat(string(figures[9]), behind))
				checkReadByGrammar(t, seconds+"."+strings.Repeat(string(figures[1]), behind)+"x")
			}
		}
	}
}

func TestP4ReadShortTexts(t *testing.T) {
	checkContinued(t, "", 5)
}

func checkContinued(t *testing.T, text string, pieces int) {
	t.Helper()
	checkReadByGrammar(t, text)
	if pieces == 0 {
		return
	}
	for _, piece := range []string{"0", "7", ".", "٣", "３", "x", "\xff", "\xd9"} {
		checkContinued(t, text+piece, pieces-1)
	}
}

func TestP4ReadSomeTimes(t *testing.T) {
	r := rand.New(rand.NewSource(5))
	for range 5000 {
		text := ""
		for range 1 + r.Intn(10) {
			text += string([]rune(rows[r.Intn(4)])[r.Intn(10)])
		}
		text += "."
		for range 1 + r.Intn(12) {
			text += string([]rune(rows[r.Intn(4)])[r.Intn(10)])
		}
		checkReadByGrammar(t, text)
	}
}
