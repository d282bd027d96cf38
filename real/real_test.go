package real

import (
	"fmt"
	"math"
	"math/big"
	"slices"
	"strconv"
	"strings"
	"testing"
)

// last is the greatest whole number that has a text, and lastText its digits.
const (
	last     = 9007199254740992
	lastText = "9007199254740992"
)

// sample is a float and its four numbers.
type sample struct {
	x float64
	l []int
}

// samples are floats with their numbers, worked out by hand: ordinary ones, and both ends of each kind.
func samples() []sample {
	return []sample{
		{0, []int{0, 0, 0, 0}},
		{minusNought(), []int{32768, 0, 0, 0}},
		{1, []int{16368, 0, 0, 0}},
		{-1, []int{49136, 0, 0, 0}},
		{2, []int{16384, 0, 0, 0}},
		{-2.5, []int{49156, 0, 0, 0}},
		{0.5, []int{16352, 0, 0, 0}},
		{1.5, []int{16376, 0, 0, 0}},
		{0.1, []int{16313, 39321, 39321, 39322}},
		{1.0 / 3, []int{16341, 21845, 21845, 21845}},
		{258, []int{16496, 8192, 0, 0}},
		{65535, []int{16623, 65504, 0, 0}},
		{1 + 0x1p-52, []int{16368, 0, 0, 1}},
		{1 + 0x1p-36, []int{16368, 0, 1, 0}},
		{1 + 0x1p-20, []int{16368, 1, 0, 0}},
		{1 - 0x1p-53, []int{16367, 65535, 65535, 65535}},
		{last - 1, []int{17215, 65535, 65535, 65535}},
		{last, []int{17216, 0, 0, 0}},
		{last + 2, []int{17216, 0, 0, 1}},
		{5e-324, []int{0, 0, 0, 1}},
		{-5e-324, []int{32768, 0, 0, 1}},
		{0x1p-1022 - 0x1p-1074, []int{15, 65535, 65535, 65535}},
		{0x1p-1022, []int{16, 0, 0, 0}},
		{-0x1p-1022, []int{32784, 0, 0, 0}},
		{math.MaxFloat64, []int{32751, 65535, 65535, 65535}},
		{-math.MaxFloat64, []int{65519, 65535, 65535, 65535}},
		{math.Inf(1), []int{32752, 0, 0, 0}},
		{math.Inf(-1), []int{65520, 0, 0, 0}},
	}
}

// noNumbers are numbers of floats that are none, in many forms: both signs, quiet or not, each of the four numbers telling it alone.
func noNumbers() [][]int {
	return [][]int{
		{32760, 0, 0, 0}, {32760, 0, 0, 1}, {32752, 0, 0, 1}, {32752, 0, 1, 0}, {32752, 1, 0, 0}, {32753, 0, 0, 0}, {32764, 0, 0, 0},
		{32759, 65535, 65535, 65535}, {32767, 65535, 65535, 65535}, {32752, 0, 32768, 0}, {32752, 32768, 0, 0}, {32752, 0, 0, 32768},
		{65528, 0, 0, 0}, {65528, 0, 0, 1}, {65520, 0, 0, 1}, {65520, 0, 1, 0}, {65520, 1, 0, 0}, {65521, 0, 0, 0}, {65535, 65535, 65535, 65535},
	}
}

// minusNought is made by bits: written out, -0.0 is 0.
func minusNought() float64 {
	return math.Float64frombits(1 << 63)
}

// alike holds floats against each other without the program's own Same: what is no number is like each other such.
func alike(a, b float64) bool {
	return math.IsNaN(a) && math.IsNaN(b) || math.Float64bits(a) == math.Float64bits(b)
}

// byParts works a float out of its sign, its exponent and its fraction by division and powers of two, so that it shares nothing with the bits it is held against.
func byParts(l []int) float64 {
	sign, power := l[0]/32768, l[0]/16%2048
	part := float64(l[0]%16)*0x1p48 + float64(l[1])*0x1p32 + float64(l[2])*0x1p16 + float64(l[3])
	x := math.Ldexp(part, -1074)
	if power == 2047 {
		x = math.Inf(1)
		if part != 0 {
			x = math.NaN()
		}
	} else if power > 0 {
		x = math.Ldexp(0x1p52+part, power-1075)
	}
	if sign == 1 {
		x = math.Copysign(x, -1)
	}
	return x
}

// The first wrong answer ends a test: the loops over many floats would tell thousands of them.
func wantOf(t *testing.T, l []int, want float64, good bool) {
	t.Helper()
	if x, ok := Of(l); !alike(x, want) || ok != good {
		t.Fatalf("Of(%v) = %v, %v; want %v, %v", l, x, ok, want, good)
	}
}

func wantRegs(t *testing.T, x float64, want []int) {
	t.Helper()
	if l := Regs(x); !slices.Equal(l, want) {
		t.Fatalf("Regs(%v) = %v; want %v", x, l, want)
	}
}

func wantSame(t *testing.T, a, b float64, want bool) {
	t.Helper()
	if Same(a, b) != want || Same(b, a) != want {
		t.Fatalf("Same(%v, %v) = %v, the other way round %v; want %v", a, b, Same(a, b), Same(b, a), want)
	}
}

func wantWithin(t *testing.T, x, low, high float64, want bool) {
	t.Helper()
	if Within(x, low, high) != want {
		t.Fatalf("Within(%v, %v, %v) = %v", x, low, high, !want)
	}
}

func wantText(t *testing.T, x float64, want string, good bool) {
	t.Helper()
	if s, ok := Text(x); s != want || ok != good {
		t.Fatalf("Text(%v) = %q, %v; want %q, %v", x, s, ok, want, good)
	}
}

func wantRead(t *testing.T, s string, want float64, good bool) {
	t.Helper()
	if x, ok := Read(s); !alike(x, want) || ok != good {
		t.Fatalf("Read(%.60q) = %v, %v; want %v, %v", s, x, ok, want, good)
	}
}

// P3.1: Of takes the highest number first, each bit as it is.
func TestOfMakesTheFloat(t *testing.T) {
	for _, s := range samples() {
		wantOf(t, s.l, s.x, true)
	}
	for _, l := range noNumbers() {
		wantOf(t, l, math.NaN(), true)
	}
}

// P3.1: Of with each bit alone, and each but one, in each of the four numbers.
func TestOfTakesEachBit(t *testing.T) {
	for at := range 4 {
		for bit := range 16 {
			one, rest := []int{0, 0, 0, 0}, []int{65535, 65535, 65535, 65535}
			one[at], rest[at] = 1<<bit, 65535-1<<bit
			wantOf(t, one, byParts(one), true)
			wantOf(t, rest, byParts(rest), true)
			rest[0] &^= 1 << 4
			wantOf(t, rest, byParts(rest), true)
		}
	}
}

// P3.1: Of with each highest number there is, whatever stands behind.
func TestOfWithEachHighestNumber(t *testing.T) {
	for n := range 65536 {
		for _, tail := range [][]int{{0, 0, 0}, {0, 0, 1}, {32768, 0, 0}, {65535, 65535, 65535}, {n, n, n}} {
			l := append([]int{n}, tail...)
			wantOf(t, l, byParts(l), true)
		}
	}
}

// P3.1: Of unless there are four.
func TestOfRefusesOtherLengths(t *testing.T) {
	wantOf(t, nil, 0, false)
	for n := range 20 {
		for _, v := range []int{0, 1, 16368, 65535} {
			if n != 4 {
				wantOf(t, slices.Repeat([]int{v}, n), 0, false)
			}
		}
	}
	for _, n := range []int{256, 1 << 16, 1<<16 + 4} {
		wantOf(t, make([]int, n), 0, false)
	}
}

// P3.1: Of with one that is below 0 or above 65535, at each place; some look like a number that may be, in their lowest bits.
func TestOfRefusesOtherNumbers(t *testing.T) {
	for _, n := range []int{
		-1, -2, -16368, -32768, -65535, -65536, -1 << 32, math.MinInt, math.MinInt + 1, math.MinInt + 16368,
		65536, 65537, 65536 + 16368, 1 << 17, 1 << 31, 1<<32 - 1, 1 << 32, 1<<32 + 16368, 1 << 48, 1 << 62, math.MaxInt,
	} {
		for at := range 4 {
			for _, fill := range []int{0, 16368, 65535} {
				l := slices.Repeat([]int{fill}, 4)
				l[at] = n
				wantOf(t, l, 0, false)
			}
		}
		wantOf(t, []int{n, n, n, n}, 0, false)
	}
}

// P3.1: Regs tells the four numbers, the highest first.
func TestRegsTellsTheFourNumbers(t *testing.T) {
	for _, s := range samples() {
		wantRegs(t, s.x, s.l)
	}
}

// P3.1: Regs of whatever is no number tells the same four.
func TestRegsOfNoNumber(t *testing.T) {
	want := []int{32760, 0, 0, 0}
	wantRegs(t, math.NaN(), want)
	wantRegs(t, -math.NaN(), want)
	wantRegs(t, math.Inf(1)-math.Inf(1), want)
	wantRegs(t, math.Sqrt(-1), want)
	for _, l := range noNumbers() {
		x, _ := Of(l)
		wantRegs(t, x, want)
	}
}

// P3.1: Regs with each exponent, each sign, and fractions at both ends.
func TestRegsWithEachExponent(t *testing.T) {
	for n := range 65536 {
		for _, tail := range [][]int{{0, 0, 0}, {0, 0, 1}, {0, 1, 0}, {1, 0, 0}, {65535, 65535, 65535}, {1, 2, 3}} {
			l := append([]int{n}, tail...)
			want := l
			if math.IsNaN(byParts(l)) {
				want = []int{32760, 0, 0, 0}
			}
			wantRegs(t, byParts(l), want)
		}
	}
}

// P3.1: each sample is the same as itself, and as no other one.
func TestSameHoldsEachAgainstEach(t *testing.T) {
	all := samples()
	for i, a := range all {
		for j, b := range all {
			wantSame(t, a.x, b.x, i == j)
		}
		wantSame(t, a.x, math.Nextafter(a.x, math.Copysign(math.Inf(1), -a.x)), false)
	}
}

// P3.1: Same of noughts goes by their signs.
func TestSameOfNoughts(t *testing.T) {
	wantSame(t, 0, 0, true)
	wantSame(t, minusNought(), minusNought(), true)
	wantSame(t, 0, minusNought(), false)
}

// P3.1: Same of what is no number, whatever its bits, and of numbers beside it.
func TestSameOfNoNumbers(t *testing.T) {
	for _, l := range noNumbers() {
		x, _ := Of(l)
		wantSame(t, x, math.NaN(), true)
		for _, k := range noNumbers() {
			y, _ := Of(k)
			wantSame(t, x, y, true)
		}
		for _, s := range samples() {
			wantSame(t, x, s.x, false)
		}
	}
}

// P3.1: Within, with both bounds in, and what is next to them.
func TestWithinTakesItsBounds(t *testing.T) {
	for _, s := range samples() {
		wantWithin(t, s.x, s.x, s.x, true)
	}
	for _, c := range []struct{ low, high float64 }{
		{0, 1}, {-5, 5}, {-1, -0.5}, {0.1, 0.2}, {5e-324, 1e-323}, {1, last}, {-math.MaxFloat64, math.MaxFloat64},
	} {
		wantWithin(t, c.low, c.low, c.high, true)
		wantWithin(t, c.high, c.low, c.high, true)
		wantWithin(t, c.low/2+c.high/2, c.low, c.high, true)
		wantWithin(t, math.Nextafter(c.low, math.Inf(1)), c.low, c.high, true)
		wantWithin(t, math.Nextafter(c.high, math.Inf(-1)), c.low, c.high, true)
		wantWithin(t, math.Nextafter(c.low, math.Inf(-1)), c.low, c.high, false)
		wantWithin(t, math.Nextafter(c.high, math.Inf(1)), c.low, c.high, false)
		wantWithin(t, math.Inf(1), c.low, c.high, false)
		wantWithin(t, math.Inf(-1), c.low, c.high, false)
	}
}

// P3.1: Within where the lower bound is the greater one: nothing is.
func TestWithinOfBoundsTheOtherWayRound(t *testing.T) {
	for _, x := range []float64{-2, -1, 0, minusNought(), 0.5, 1, 2, math.Inf(1), math.Inf(-1)} {
		wantWithin(t, x, 1, -1, false)
		wantWithin(t, x, 1, 0, false)
		wantWithin(t, x, math.Inf(1), math.Inf(-1), false)
	}
}

// P3.1: 0 and -0 are equal within.
func TestWithinOfNoughts(t *testing.T) {
	both := []float64{0, minusNought()}
	for _, x := range both {
		for _, low := range both {
			for _, high := range both {
				wantWithin(t, x, low, high, true)
			}
			wantWithin(t, x, low, 1, true)
			wantWithin(t, x, -1, low, true)
			wantWithin(t, 5e-324, x, low, false)
			wantWithin(t, -5e-324, x, low, false)
		}
		wantWithin(t, x, 5e-324, 1, false)
		wantWithin(t, x, -1, -5e-324, false)
	}
}

// P3.1: infinities are numbers, and bounds.
func TestWithinOfInfinities(t *testing.T) {
	up, down := math.Inf(1), math.Inf(-1)
	for _, s := range samples() {
		wantWithin(t, s.x, down, up, true)
		wantWithin(t, s.x, up, up, s.x == up)
		wantWithin(t, s.x, down, down, s.x == down)
		wantWithin(t, s.x, 0, up, s.x >= 0)
		wantWithin(t, s.x, down, 0, s.x <= 0)
	}
}

// P3.1: what is no number is within nothing, and nothing within it.
func TestWithinOfNoNumbers(t *testing.T) {
	for _, l := range noNumbers() {
		n, _ := Of(l)
		wantWithin(t, n, n, n, false)
		wantWithin(t, n, math.Inf(-1), math.Inf(1), false)
		for _, s := range samples() {
			wantWithin(t, n, s.x, s.x, false)
			wantWithin(t, s.x, n, s.x, false)
			wantWithin(t, s.x, s.x, n, false)
			wantWithin(t, s.x, n, n, false)
			wantWithin(t, n, n, s.x, false)
			wantWithin(t, n, s.x, n, false)
			wantWithin(t, s.x, n, math.Inf(1), false)
			wantWithin(t, s.x, math.Inf(-1), n, false)
		}
	}
}

// bounds are bounds' texts and their floats, with both ends of what may be written.
func bounds() map[string]float64 {
	l := map[string]float64{
		"inf": math.Inf(1), "-inf": math.Inf(-1), "0": 0, "-0": minusNought(),
		lastText: last, "-" + lastText: -last,
		"9007199254740991": last - 1, "-9007199254740991": 1 - last, "9007199254740990": last - 2,
		"4503599627370497": 4503599627370497, "-4503599627370497": -4503599627370497,
		"2147483648": 1 << 31, "4294967296": 1 << 32, "-4294967297": -4294967297, "1000000000000000": 1e15,
	}
	for n := 1; n <= 100000; n++ {
		s := strconv.Itoa(n)
		l[s], l["-"+s] = float64(n), -float64(n)
	}
	return l
}

// P3.2: Text of what has one.
func TestTextOfBounds(t *testing.T) {
	for s, x := range bounds() {
		wantText(t, x, s, true)
	}
}

// P3.2: Text of floats between whole numbers, beyond 2^53, and of no numbers.
func TestTextRefusesOtherFloats(t *testing.T) {
	l := []float64{
		0.5, 1.5, 0.1, 1.0 / 3, 2.0000000000000004, 0.9999999999999999, 5e-324, 0x1p-1022, 0x1p-53, 4503599627370495.5, 123456789.25,
		last + 2, last + 4, last * 2, 1e16, 1e17, 0x1p62, 0x1p63 - 1024, 0x1p63, 0x1p63 + 2048, 0x1p64, 0x1p64 + 4096, 1e19, 1e100, math.MaxFloat64,
	}
	for _, x := range l {
		wantText(t, x, "", false)
		wantText(t, -x, "", false)
	}
	for _, b := range noNumbers() {
		x, _ := Of(b)
		wantText(t, x, "", false)
	}
	for n := range 1000 {
		wantText(t, float64(n)+0.5, "", false)
		wantText(t, -float64(n)-0.5, "", false)
		wantText(t, math.Nextafter(float64(n+1), 0), "", false)
		wantText(t, math.Nextafter(-float64(n+1), -last), "", false)
	}
}

// P3.2: Read of what is a bound's text.
func TestReadOfBounds(t *testing.T) {
	for s, x := range bounds() {
		wantRead(t, s, x, true)
	}
}

// P3.2: Read of each text of one byte and of two, whatever the bytes, with a minus ahead and without.
func TestReadOfAllShortTexts(t *testing.T) {
	known := bounds()
	for a := range 256 {
		for b := range 256 {
			for _, s := range []string{string([]byte{byte(a)}), string([]byte{byte(a), byte(b)}), string([]byte{'-', byte(a), byte(b)})} {
				x, good := known[s]
				wantRead(t, s, x, good)
			}
		}
	}
}

// P3.2: Read of texts that are no bound's.
func TestReadRefusesOtherTexts(t *testing.T) {
	l := []string{
		"", "-", "--", "--1", "---1", "--0", "--inf", "-+1", "+1", "+0", "+inf", "+", "- 1", "- inf", "1-", "0-", "inf-", "-inf-", "1-2", "\u22121",
		"1.5", "1.0", "0.0", "-0.0", "1.", ".5", "1e3", "1E3", "0x1p3", "0x10", "1_000", "1,000", "1f",
		"nan", "NaN", "-nan", "Inf", "INF", "-Inf", "iNf", "infinity", "-infinity", "in", "i", "-in", "nf", "inff", "infinf", "inf ", " inf", "inf\n", "inf\x00", "inf0", "0inf", "1inf", "\xffinf",
		"00", "-00", "007", "-007", "01", "-01", "00000000000000000", " 1", "1 ", " -1", "-1 ", "1\n", "1\x00", "\t1", "x", "-x", "x1", "1x",
		"9007199254740993", "-9007199254740993", "9007199254740994", "10000000000000000", "-10000000000000000", "18014398509481984",
		"9223372036854775807", "-9223372036854775808", "18446744073709551616", "18446744073709551617", "-18446744073709551617", "99999999999999999999999",
		"\u0661", "\uff11", "-\uff11", "\u221e", "-\u221e", "(1)", "#1",
	}
	for _, c := range []string{"0", "1", "9", "-", "inf", " "} {
		l = append(l, strings.Repeat(c, 1<<20), "-"+strings.Repeat(c, 1<<20))
	}
	for _, s := range l {
		wantRead(t, s, 0, false)
	}
}

// P3.2: Read above 2^53, also where a number of 64 bits goes round and would look like one that may be.
func TestReadRefusesGreaterNumbers(t *testing.T) {
	for _, bits := range []uint{53, 54, 63, 64, 65, 128, 1024} {
		for more := int64(1); more <= 20; more++ {
			s := new(big.Int).Add(new(big.Int).Lsh(big.NewInt(1), bits), big.NewInt(more)).String()
			wantRead(t, s, 0, false)
			wantRead(t, "-"+s, 0, false)
		}
	}
}

// P3.3: four numbers make a float whose numbers they are, but for what is no number.
func TestNumbersThereAndBack(t *testing.T) {
	step := []int{0, 1, 255, 256, 21845, 32767, 32768, 65534, 65535}
	for n := range 65536 {
		i := n % len(step)
		for _, tail := range [][]int{{0, 0, 0}, {step[i], n, 65535 - n}, {n, step[i], step[len(step)-1-i]}} {
			l := append([]int{n}, tail...)
			x, ok := Of(l)
			if !ok {
				t.Fatalf("Of(%v) is refused", l)
			}
			if !math.IsNaN(x) {
				wantRegs(t, x, l)
			}
		}
	}
}

// P3.3: a float's numbers make it again, bit by bit, but for what is no number: that stays none.
func TestFloatsThereAndBack(t *testing.T) {
	for _, x := range spread() {
		back, ok := Of(Regs(x))
		if !ok || !alike(back, x) || !Same(back, x) {
			t.Fatalf("Of(Regs(%v)) = %v, %v", x, back, ok)
		}
	}
	for _, l := range noNumbers() {
		x, _ := Of(l)
		wantOf(t, Regs(x), math.NaN(), true)
	}
}

// P3.3: what has a text is read as the same float, and what is read is written as the same text.
func TestTextsThereAndBack(t *testing.T) {
	for _, x := range spread() {
		s, ok := Text(x)
		if want := math.IsInf(x, 0) || x == math.Trunc(x) && math.Abs(x) <= last; ok != want {
			t.Fatalf("Text(%v) = %q, %v; want %v", x, s, ok, want)
		}
		if ok {
			wantRead(t, s, x, true)
		}
		for _, u := range []string{fmt.Sprintf("%.0f", x), "-" + s, "0" + s, s + "0"} {
			if y, ok := Read(u); ok {
				wantText(t, y, u, true)
			}
		}
	}
}

// spread answers floats of all sizes, of both signs, and those around them.
func spread() []float64 {
	l := []float64{0}
	for power := -1074; power <= 1023; power++ {
		x := math.Ldexp(1, power)
		l = append(l, x, math.Nextafter(x, 0), math.Nextafter(x, math.Inf(1)), 1.7*x)
	}
	for n := 0.0; n <= last; n += 123456789012 {
		l = append(l, n, last-n, n+0.5)
	}
	l = append(l, math.MaxFloat64, math.Inf(1))
	for _, x := range l[:len(l):len(l)] {
		l = append(l, math.Copysign(x, -1))
	}
	return l
}

// Rule 5: the list that is handed in stays, its spare room too.
func TestOfLeavesItsList(t *testing.T) {
	for _, n := range []int{3, 4, 5} {
		for _, fourth := range []int{9, -1} {
			room := []int{16368, 1, 258, fourth, 7, 77, 78}
			Of(room[:n])
			if !slices.Equal(room, []int{16368, 1, 258, fourth, 7, 77, 78}) {
				t.Fatalf("Of changed its list: %v", room)
			}
		}
	}
}

// Rule 6: an answer shares nothing with the next one.
func TestRegsAnswersListsOfTheirOwn(t *testing.T) {
	for _, x := range []float64{1, math.NaN(), math.Inf(1)} {
		first, want := Regs(x), Regs(x)
		clear(first)
		wantRegs(t, x, want)
	}
}
