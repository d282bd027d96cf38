package mean

import (
	"fmt"
	"math"
	"math/rand"
	"slices"
	"strings"
	"testing"

	"gatewarden/api"
	"gatewarden/ask"
	"gatewarden/check"
	"gatewarden/facts"
	"gatewarden/parse"
	"gatewarden/tree"
)

const (
	most     = 1 << 53
	least    = math.MinInt
	greatest = math.MaxInt
)

var (
	minusNought = math.Copysign(0, -1)
	infinite    = math.Inf(1)
)

// of makes ranges of ends that stand by twos.
func of(ends ...int) []api.Range {
	var l []api.Range
	for i := 0; i+1 < len(ends); i += 2 {
		l = append(l, api.Range{Low: ends[i], High: ends[i+1]})
	}
	return l
}

// ranged makes an atom of a field and ranges whose ends stand by twos.
func ranged(field int, ends ...int) api.Expr {
	return api.Expr{Kind: 1, Field: field, Ranges: of(ends...)}
}

func fn(n int) api.Expr { return ranged(3, n, n) }

func floats(low, high float64) api.Expr {
	return api.Expr{Kind: 1, Field: 6, Low: low, High: high}
}

func made(kind int, l ...api.Expr) api.Expr { return api.Expr{Kind: kind, Of: l} }

func not(e api.Expr) api.Expr    { return made(2, e) }
func and(l ...api.Expr) api.Expr { return made(3, l...) }
func or(l ...api.Expr) api.Expr  { return made(4, l...) }

// nots answers a not of each one.
func nots(l []api.Expr) []api.Expr {
	var turned []api.Expr
	for _, e := range l {
		turned = append(turned, not(e))
	}
	return turned
}

// nested answers e within so many nots.
func nested(e api.Expr, times int) api.Expr {
	for range times {
		e = not(e)
	}
	return e
}

// regs are the numbers of floats, four of each: by division, so that they share nothing with layer 3's shifts.
func regs(l ...float64) []int {
	var numbers []int
	for _, x := range l {
		bits := math.Float64bits(x)
		for _, worth := range []uint64{1 << 48, 1 << 32, 1 << 16, 1} {
			numbers = append(numbers, int(bits/worth%65536))
		}
	}
	return numbers
}

// The first wrong answer ends a test: the loops over many expressions would tell thousands of them.
func wantHolds(t *testing.T, e api.Expr, f api.Facts, want bool) {
	t.Helper()
	if !tree.Right(e) || tree.Deep(e) > 200 {
		t.Fatalf("%+v may not be asked for: the test is wrong", e)
	}
	if got := Holds(e, f); got != want {
		t.Fatalf("Holds(%+v, %+v) = %v; want %v", e, f, got, want)
	}
}

func wantFirst(t *testing.T, l []api.Rule, f api.Facts, want int) {
	t.Helper()
	if got := First(l, f); got != want {
		t.Fatalf("First(%+v, %+v) = %d; want %d", l, f, got, want)
	}
}

// full is facts in which each field has something of its own.
func full() api.Facts {
	return api.Facts{Client: 1, Unit: 17, Func: 16, Spans: of(3, 6), Values: []int{7, 8}, Regs: regs(1)}
}

// field is one that asks for a single number, and how facts are made that have it.
type field struct {
	number int
	facts  func(n int) api.Facts
}

func fields() []field {
	return []field{
		{1, func(n int) api.Facts { f := full(); f.Client = n; return f }},
		{2, func(n int) api.Facts { f := full(); f.Unit = n; return f }},
		{3, func(n int) api.Facts { f := full(); f.Func = n; return f }},
		{4, func(n int) api.Facts { f := full(); f.Spans = of(n, n); return f }},
		{5, func(n int) api.Facts { f := full(); f.Values = []int{n}; return f }},
	}
}

// P15.1: an atom of ranges: the numbers that they just have, and just haven't.
func TestAtomsOfOneNumber(t *testing.T) {
	for _, one := range []struct {
		ends       []int
		has, hasnt []int
	}{
		{[]int{5, 5}, []int{5}, []int{4, 6, -5, 0, 261, -251, 5 + 1<<32, 5 - 1<<32, least + 5, least, greatest}},
		{[]int{0, 0}, []int{0}, []int{-1, 1, 256, 65536, 1 << 32, least, greatest}},
		{[]int{3, 7}, []int{3, 4, 6, 7}, []int{2, 8, -3, -5, -7, 0}},
		{[]int{0, 255}, []int{0, 1, 128, 254, 255}, []int{-1, 256, 511, least, greatest}},
		{[]int{0, 65535}, []int{0, 255, 256, 65534, 65535}, []int{-1, 65536, least, greatest}},
		// Several, of which the last one alone has it, or a middle one, or the first.
		{[]int{1, 2, 5, 6, 9, 9}, []int{1, 2, 5, 6, 9}, []int{0, 3, 4, 7, 8, 10}},
		{[]int{9, 9, 5, 6, 1, 2}, []int{1, 2, 5, 6, 9}, []int{0, 3, 4, 7, 8, 10}},
		{[]int{1, 4, 3, 6}, []int{1, 2, 3, 4, 5, 6}, []int{0, 7}},
		{[]int{1, 9, 4, 5}, []int{1, 4, 5, 6, 9}, []int{0, 10}},
		// A range without a number has none, and takes none from the others.
		{[]int{7, 3}, nil, []int{2, 3, 4, 5, 6, 7, 8}},
		{[]int{1, 0}, nil, []int{-1, 0, 1, 2}},
		{[]int{7, 3, 5, 5}, []int{5}, []int{3, 4, 6, 7}},
		{[]int{5, 5, 7, 3}, []int{5}, []int{3, 4, 6, 7}},
		{[]int{most, 0}, nil, []int{0, 1, most - 1, most}},
		// The greatest that may be.
		{[]int{0, most}, []int{0, 1, 65536, most - 1, most}, []int{-1, most + 1, least, greatest}},
		{[]int{most, most}, []int{most}, []int{most - 1, most + 1, 0, -most, greatest}},
	} {
		for _, field := range fields() {
			e := ranged(field.number, one.ends...)
			for _, n := range one.has {
				wantHolds(t, e, field.facts(n), true)
				wantHolds(t, not(e), field.facts(n), false)
			}
			for _, n := range one.hasnt {
				wantHolds(t, e, field.facts(n), false)
				wantHolds(t, not(e), field.facts(n), true)
			}
		}
	}
}

// P15.1: of many ranges each one counts, wherever it stands.
func TestManyRanges(t *testing.T) {
	for _, field := range fields() {
		e := ranged(field.number)
		for n := range 100 {
			e.Ranges = append(e.Ranges, of(997-10*n, 999-10*n)...)
		}
		for n := range 1001 {
			wantHolds(t, e, field.facts(n), n > 6 && n%10 > 6)
		}
	}
}

// P15.1: addr: each span must be covered, by all ranges together.
func TestAddr(t *testing.T) {
	for _, one := range []struct {
		ends  []int
		spans []int
		want  bool
	}{
		// The chapter's example.
		{[]int{0, 9}, []int{3, 9}, true},
		{[]int{0, 9}, []int{3, 10}, false},
		// Of no spans all are covered, even by ranges that have no number.
		{[]int{0, 9}, nil, true},
		{[]int{9, 0}, nil, true},
		{[]int{0, 0}, nil, true},
		// One span.
		{[]int{0, 9}, []int{0, 9}, true},
		{[]int{1, 9}, []int{0, 9}, false},
		{[]int{0, 8}, []int{0, 9}, false},
		{[]int{3, 9}, []int{2, 2}, false},
		{[]int{3, 9}, []int{3, 3}, true},
		{[]int{3, 9}, []int{9, 9}, true},
		{[]int{3, 9}, []int{10, 10}, false},
		{[]int{3, 9}, []int{2, 10}, false},
		{[]int{3, 9}, []int{20, 30}, false},
		{[]int{0, 65535}, []int{0, 65535}, true},
		{[]int{0, 65534}, []int{65535, 65535}, false},
		{[]int{1, 65535}, []int{0, 0}, false},
		{[]int{9, 3}, []int{5, 5}, false},
		// Not a whole one: the first and the last address are had, one between isn't.
		{[]int{3, 5, 7, 9}, []int{3, 9}, false},
		{[]int{3, 3, 9, 9}, []int{3, 9}, false},
		// Ranges that cover it together.
		{[]int{0, 5, 6, 9}, []int{0, 9}, true},
		{[]int{6, 9, 0, 5}, []int{0, 9}, true},
		{[]int{6, 9, 0, 5}, []int{5, 6}, true},
		{[]int{0, 6, 4, 9}, []int{2, 8}, true},
		{[]int{8, 9, 0, 3, 4, 7}, []int{0, 9}, true},
		{[]int{8, 9, 0, 3, 4, 6}, []int{0, 9}, false},
		{[]int{0, 5, 9, 6}, []int{0, 9}, false},
		{[]int{0, 5, 9, 7, 6, 9}, []int{0, 9}, true},
		// Two spans.
		{[]int{0, 9}, []int{0, 1, 8, 9}, true},
		{[]int{0, 9}, []int{8, 9, 0, 1}, true},
		{[]int{0, 9}, []int{8, 10, 0, 1}, false},
		{[]int{0, 9}, []int{0, 1, 8, 10}, false},
		{[]int{0, 9}, []int{10, 10, 11, 11}, false},
		{[]int{0, 1, 8, 9}, []int{0, 1, 8, 9}, true},
		{[]int{0, 1, 8, 9}, []int{8, 9, 0, 1}, true},
		{[]int{0, 1, 8, 9}, []int{0, 2, 8, 9}, false},
		{[]int{0, 1, 8, 9}, []int{0, 1, 7, 9}, false},
		{[]int{0, 1, 8, 9}, []int{0, 1, 0, 9}, false},
		{[]int{0, 9}, []int{4, 6, 4, 6}, true},
		{[]int{0, 4, 5, 9}, []int{3, 7, 4, 5}, true},
		// More than requests have, and spans of no address.
		{[]int{0, 9}, []int{1, 1, 3, 3, 5, 5, 10, 10}, false},
		{[]int{0, 9}, []int{1, 1, 3, 3, 10, 10, 5, 5}, false},
		{[]int{0, 9}, []int{1, 1, 3, 3, 9, 9, 5, 5}, true},
		{[]int{0, 9}, []int{20, 10}, true},
		{[]int{9, 0}, []int{1, 0}, true},
		{[]int{0, 9}, []int{20, 10, 10, 10}, false},
		// Numbers that no address is.
		{[]int{0, most}, []int{-1, 5}, false},
		{[]int{0, most}, []int{0, most}, true},
		{[]int{0, most}, []int{0, most + 1}, false},
		{[]int{0, most}, []int{least, greatest}, false},
		{[]int{0, most}, []int{least, least}, false},
		{[]int{0, most}, []int{greatest, greatest}, false},
		{[]int{0, most}, []int{greatest, least}, true},
	} {
		f := full()
		f.Spans = of(one.spans...)
		wantHolds(t, ranged(4, one.ends...), f, one.want)
		wantHolds(t, not(ranged(4, one.ends...)), f, !one.want)
	}
}

// P15.1: value: the ranges must have each of the values, wherever one stands that they haven't.
func TestValue(t *testing.T) {
	e := ranged(5, 10, 20, 40, 40)
	for _, values := range [][]int{nil, {}, {10}, {20}, {40}, {10, 20, 40}, {40, 10}, {15, 15, 15}} {
		f := full()
		f.Values = values
		wantHolds(t, e, f, true)
	}
	for _, bad := range []int{9, 21, 39, 41, 0, -10, -1, 65536 + 10, 10 + 1<<32, least, greatest} {
		for size := 1; size < 7; size++ {
			for at := range size {
				f := full()
				f.Values = slices.Repeat([]int{10}, size)
				f.Values[at] = bad
				wantHolds(t, e, f, false)
				wantHolds(t, not(e), f, true)
			}
		}
	}
	many := full()
	many.Values = slices.Repeat([]int{20, 40}, 984)
	for _, at := range []int{0, 1, 1000, 1966, 1967} {
		kept := many.Values[at]
		wantHolds(t, e, many, true)
		many.Values[at] = 30
		wantHolds(t, e, many, false)
		many.Values[at] = kept
	}
	// Of no values all are had, even by ranges that have no number.
	many.Values = nil
	wantHolds(t, ranged(5, 9, 3), many, true)
}

// P15.1: real: which floats lie within which bounds.
func TestRealBounds(t *testing.T) {
	next := math.Nextafter
	for _, one := range []struct {
		low, high  float64
		has, hasnt []float64
	}{
		{1, 1, []float64{1}, []float64{next(1, 0), next(1, 2), -1, 0, 2}},
		{-5, 40, []float64{-5, 0, minusNought, 39.5, 40}, []float64{next(-5, -6), next(40, 41), -40, 41, 1e300}},
		{0, 9, []float64{0, minusNought, math.SmallestNonzeroFloat64, 9}, []float64{-math.SmallestNonzeroFloat64, -1, next(9, 10)}},
		// 0 and -0 are equal here, as bounds and as what is asked for.
		{0, 0, []float64{0, minusNought}, []float64{math.SmallestNonzeroFloat64, -math.SmallestNonzeroFloat64}},
		{minusNought, minusNought, []float64{0, minusNought}, []float64{math.SmallestNonzeroFloat64, -math.SmallestNonzeroFloat64}},
		{0, minusNought, []float64{0, minusNought}, []float64{1, -1}},
		{minusNought, 9, []float64{0, minusNought, 9}, []float64{-math.SmallestNonzeroFloat64}},
		{-9, minusNought, []float64{0, minusNought, -9}, []float64{math.SmallestNonzeroFloat64}},
		{-most, most, []float64{-most, most, 0.5}, []float64{most + 2, -most - 2, infinite, -infinite}},
		{-infinite, infinite, []float64{-infinite, infinite, math.MaxFloat64, -math.MaxFloat64, 0}, nil},
		{-infinite, 5, []float64{-infinite, -math.MaxFloat64, 5}, []float64{next(5, 6), infinite}},
		{5, infinite, []float64{infinite, math.MaxFloat64, 5}, []float64{next(5, 4), -infinite}},
		{infinite, infinite, []float64{infinite}, []float64{math.MaxFloat64, -infinite, 0}},
		{-infinite, -infinite, []float64{-infinite}, []float64{-math.MaxFloat64, infinite, 0}},
		// No float lies between.
		{3, 2, nil, []float64{2, 2.5, 3, 0, infinite, -infinite}},
		{infinite, -infinite, nil, []float64{0, infinite, -infinite, math.MaxFloat64}},
	} {
		// What is no number lies nowhere.
		hasnt := append(one.hasnt, math.NaN(), math.Float64frombits(0xfff8000000000007), math.Float64frombits(0x7ff0000000000001))
		for _, x := range one.has {
			wantReal(t, one.low, one.high, regs(x), true)
			wantReal(t, one.low, one.high, regs(x, x, x), true)
		}
		for _, x := range hasnt {
			wantReal(t, one.low, one.high, regs(x), false)
			for _, y := range one.has {
				// One of them is enough, wherever it stands.
				wantReal(t, one.low, one.high, regs(x, y), false)
				wantReal(t, one.low, one.high, regs(y, x), false)
				wantReal(t, one.low, one.high, regs(y, x, y), false)
				wantReal(t, one.low, one.high, regs(y, y, y, x), false)
			}
		}
	}
}

func wantReal(t *testing.T, low, high float64, numbers []int, want bool) {
	t.Helper()
	f := full()
	f.Regs = numbers
	wantHolds(t, floats(low, high), f, want)
	wantHolds(t, not(floats(low, high)), f, !want)
}

// P15.1: real: registers that have no floats, and none at all.
func TestRealOfWhatHasNoFloats(t *testing.T) {
	// Of no numbers all floats lie within the bounds, even where none could.
	for _, l := range [][]int{nil, {}} {
		wantReal(t, -infinite, infinite, l, true)
		wantReal(t, 1, 1, l, true)
		wantReal(t, 3, 2, l, true)
	}
	for n := range 30 {
		wantReal(t, -infinite, infinite, make([]int, n), n%4 == 0)
		wantReal(t, 0, 0, make([]int, n), n%4 == 0)
		wantReal(t, 0, 0, regs(0, 0, 0, 0, 0, 0, 0, 1)[:n], n%4 == 0 && n < 29)
	}
	for _, size := range []int{4, 8, 12} {
		for at := range size {
			for _, n := range []int{0, 1, 65535, 65536, 1 << 32, 1 << 48, -1, -65536, least, greatest} {
				l := make([]int, size)
				l[at] = n
				ok := n >= 0 && n < 65536
				// A 65535 that stands first in its four is the sign, and an exponent of what is no number.
				wantReal(t, -infinite, infinite, l, ok && (n != 65535 || at%4 != 0))
			}
		}
	}
}

// fieldAtoms are an atom of each field that holds for full, and one that doesn't.
func fieldAtoms() (good, bad []api.Expr) {
	good = []api.Expr{ranged(1, 1, 1), ranged(2, 17, 17), ranged(3, 16, 16), ranged(4, 3, 6), ranged(5, 7, 8), floats(1, 1)}
	bad = []api.Expr{ranged(1, 2, 20), ranged(2, 1, 16), ranged(3, 17, 17), ranged(4, 4, 6), ranged(5, 8, 9), floats(2, 3)}
	return good, bad
}

// P15.1: facts of the other fields don't count: with all of them other ones, an atom holds as it did.
func TestFactsOfOtherFields(t *testing.T) {
	good, bad := fieldAtoms()
	for i := range good {
		for _, n := range []int{least, -1, 0, 1, 2, 3, 5, 7, 16, 17, 255, 65536, greatest} {
			for _, numbers := range [][]int{nil, {n}, {1, 16, 17, n}, regs(2.5), regs(1)} {
				f := api.Facts{Client: n, Unit: n, Func: n, Spans: of(n, n), Values: numbers, Regs: numbers}
				switch i {
				case 0:
					f.Client = 1
				case 1:
					f.Unit = 17
				case 2:
					f.Func = 16
				case 3:
					f.Spans = of(3, 6)
				case 4:
					f.Values = []int{7, 8}
				case 5:
					f.Regs = regs(1)
				}
				wantHolds(t, good[i], f, true)
				wantHolds(t, bad[i], f, false)
			}
		}
	}
}

// P15.1: each atom stands for its own field: with the fields of the facts told apart, it isn't another one's.
func TestAtomsOfEachField(t *testing.T) {
	f := api.Facts{Client: 1, Unit: 2, Func: 3, Spans: of(4, 4), Values: []int{5}, Regs: regs(6)}
	for number := 1; number < 6; number++ {
		for n := range 8 {
			wantHolds(t, ranged(number, n, n), f, n == number)
		}
	}
	for n := range 8 {
		wantHolds(t, floats(float64(n), float64(n)), f, n == 6)
	}
}

// P15.1: ExprAll always holds.
func TestAll(t *testing.T) {
	for _, f := range []api.Facts{{}, full(), {Client: least, Unit: greatest, Func: -1}, {Spans: of(least, greatest)}, {Values: []int{least}}, {Regs: []int{-1}}} {
		wantHolds(t, api.Expr{}, f, true)
	}
}

// parts answers parts that hold where a bit of bits is 1, atoms or made of others.
func parts(size, bits int, deep bool) []api.Expr {
	good, bad := fieldAtoms()
	var l []api.Expr
	for i := range size {
		yes, no := good[i%6], bad[i%6]
		if deep {
			yes, no = not(or(no, no)), not(or(no, yes))
		}
		if bits>>i%2 == 1 {
			l = append(l, yes)
		} else {
			l = append(l, no)
		}
	}
	return l
}

// P15.1: ands and ors of two and more: of which none, the first, the last, some and all hold.
func TestAndsAndOrs(t *testing.T) {
	for size := 2; size < 9; size++ {
		for bits := range 1 << size {
			for _, deep := range []bool{false, true} {
				l := parts(size, bits, deep)
				wantHolds(t, and(l...), full(), bits == 1<<size-1)
				wantHolds(t, or(l...), full(), bits != 0)
				wantHolds(t, not(and(l...)), full(), bits != 1<<size-1)
				wantHolds(t, not(or(l...)), full(), bits == 0)
			}
		}
	}
}

// P15.1: ands and ors of very many, of which one alone is unlike the others.
func TestLongAndsAndOrs(t *testing.T) {
	for _, size := range []int{2, 100, 511, 512, 3000} {
		for _, at := range []int{0, 1, size / 2, size - 2, size - 1} {
			yes, no := slices.Repeat([]api.Expr{fn(16)}, size), slices.Repeat([]api.Expr{fn(3)}, size)
			wantHolds(t, and(yes...), full(), true)
			wantHolds(t, or(no...), full(), false)
			yes[at], no[at] = fn(3), fn(16)
			wantHolds(t, and(yes...), full(), false)
			wantHolds(t, or(no...), full(), true)
		}
	}
}

// P15.1: ands in ors and ors in ands, and nots in and around them, by hand.
func TestMixed(t *testing.T) {
	yes, no := fn(16), fn(3)
	for _, one := range []struct {
		e    api.Expr
		want bool
	}{
		{or(and(yes, no), yes), true},
		{or(and(yes, no), no), false},
		{or(no, and(yes, yes)), true},
		{and(or(yes, no), no), false},
		{and(or(yes, no), yes), true},
		{and(yes, or(no, no)), false},
		{and(and(yes, yes), and(yes, no)), false},
		{or(or(no, no), or(no, yes)), true},
		{and(not(no), not(no)), true},
		{and(not(no), not(yes)), false},
		{or(not(yes), not(yes)), false},
		{or(not(yes), not(no)), true},
		{not(and(not(yes), or(no, yes))), true},
		{not(or(and(yes, not(no)), no)), false},
	} {
		wantHolds(t, one.e, full(), one.want)
	}
}

// P15.1, P15.2: nots of nots turn it about, each one.
func TestNotsOfNots(t *testing.T) {
	good, bad := fieldAtoms()
	for i := range good {
		for times := range 201 {
			wantHolds(t, nested(good[i], times), full(), times%2 == 0)
			wantHolds(t, nested(bad[i], times), full(), times%2 == 1)
		}
	}
}

// P15.1: expressions 200 deep, of which the innermost atom decides.
func TestDeep(t *testing.T) {
	for _, yes := range []bool{false, true} {
		e, want := fn(3), yes
		if yes {
			e = fn(16)
		}
		for i := range 200 {
			// What stands beside it leaves it as it was.
			switch i % 5 {
			case 0:
				e = and(fn(16), e)
			case 1:
				e = or(e, fn(3))
			case 2:
				e, want = not(e), !want
			case 3:
				e = and(e, ranged(2, 17, 17))
			case 4:
				e = or(floats(2, 3), fn(4), e)
			}
			wantHolds(t, e, full(), want)
		}
		if tree.Deep(e) != 200 {
			t.Fatalf("%d deep: the test is wrong", tree.Deep(e))
		}
	}
}

// randomAtom makes an atom of few numbers, so that it holds for some of randomFacts.
func randomAtom(r *rand.Rand) api.Expr {
	number := 1 + r.Intn(6)
	if number == 6 {
		some := []float64{-infinite, -2, -1, minusNought, 0, 1, 2, infinite}
		return floats(some[r.Intn(len(some))], some[r.Intn(len(some))])
	}
	e := ranged(number)
	for range 1 + r.Intn(3) {
		low := r.Intn(8)
		e.Ranges = append(e.Ranges, api.Range{Low: low, High: low + r.Intn(5) - 1})
	}
	return mended(e)
}

// mended answers e without a High below 0, which may not be.
func mended(e api.Expr) api.Expr {
	for i := range e.Ranges {
		e.Ranges[i].High = max(e.Ranges[i].High, 0)
	}
	return e
}

func randomExpr(r *rand.Rand, deep int) api.Expr {
	switch kind := r.Intn(5); {
	case deep > 0 && kind == 2:
		return not(randomExpr(r, deep-1))
	case deep > 0 && kind > 2:
		return made(kind, randomExprs(r, deep-1)...)
	}
	return randomAtom(r)
}

// randomExprs are two or more, so that an and or an or may be of them.
func randomExprs(r *rand.Rand, deep int) []api.Expr {
	var l []api.Expr
	for range 2 + r.Intn(3) {
		l = append(l, randomExpr(r, deep))
	}
	return l
}

func randomFacts(r *rand.Rand) api.Facts {
	f := api.Facts{Client: r.Intn(9), Unit: r.Intn(9), Func: r.Intn(9)}
	for range r.Intn(3) {
		low := r.Intn(8)
		f.Spans = append(f.Spans, api.Range{Low: low, High: low + r.Intn(4)})
	}
	for range r.Intn(4) {
		f.Values = append(f.Values, r.Intn(9))
	}
	some := []float64{-infinite, -2, -1.5, -1, minusNought, 0, 0.5, 1, 2, infinite, math.NaN()}
	for range r.Intn(3) {
		f.Regs = append(f.Regs, regs(some[r.Intn(len(some))])...)
	}
	if r.Intn(8) == 0 {
		f.Regs = append(f.Regs, 7)
	}
	return f
}

// has asks for each number of each range, one by one.
func has(l []api.Range, n int) bool {
	for _, r := range l {
		for m := r.Low; m <= r.High; m++ {
			if m == n {
				return true
			}
		}
	}
	return false
}

// says tells in another way whether e holds: by counting all that holds, and all that is asked for.
func says(e api.Expr, f api.Facts) bool {
	if e.Kind == 1 {
		asked, good := atomCounts(e, f)
		return asked == good
	}
	good := 0
	for _, part := range e.Of {
		if says(part, f) {
			good++
		}
	}
	return map[int]bool{0: true, 2: good == 0, 3: good == len(e.Of), 4: good > 0}[e.Kind]
}

// atomCounts tells of how many things an atom asks, and how many of these are as it says.
func atomCounts(e api.Expr, f api.Facts) (asked, good int) {
	var l []int
	switch e.Field {
	case 1, 2, 3:
		l = []int{[]int{f.Client, f.Unit, f.Func}[e.Field-1]}
	case 4:
		for _, r := range f.Spans {
			for n := r.Low; n <= r.High; n++ {
				l = append(l, n)
			}
		}
	case 5:
		l = f.Values
	case 6:
		return realCounts(e, f.Regs)
	}
	for _, n := range l {
		if has(e.Ranges, n) {
			good++
		}
	}
	return len(l), good
}

func realCounts(e api.Expr, l []int) (asked, good int) {
	for ; len(l) > 3; l = l[4:] {
		bits := uint64(0)
		for _, n := range l[:4] {
			bits = bits*65536 + uint64(n)
		}
		asked++
		if x := math.Float64frombits(bits); x >= e.Low && x <= e.High {
			good++
		}
	}
	return asked + len(l), good
}

// P15.1: expressions and facts by chance; First is the first rule of which Holds is true.
func TestByChance(t *testing.T) {
	r := rand.New(rand.NewSource(15))
	count := map[bool]int{}
	for range 30000 {
		e, f := randomExpr(r, r.Intn(5)), randomFacts(r)
		want := says(e, f)
		wantHolds(t, e, f, want)
		count[want]++
	}
	if count[true] < 5000 || count[false] < 5000 {
		t.Fatalf("%v: the test is wrong", count)
	}
	places := map[int]int{}
	for range 10000 {
		f, want := randomFacts(r), -1
		var l []api.Rule
		for i := range r.Intn(5) {
			l = append(l, api.Rule{When: randomExpr(r, r.Intn(3)), Allow: r.Intn(2) == 0})
			if want < 0 && says(l[i].When, f) {
				want = i
			}
		}
		wantFirst(t, l, f, want)
		places[want]++
	}
	if len(places) != 5 {
		t.Fatalf("%v: the test is wrong", places)
	}
}

// P15.2: not and not is as it was; not of an and is an or of nots, and not of an or an and of nots.
func TestNotAndNot(t *testing.T) {
	r := rand.New(rand.NewSource(152))
	for range 10000 {
		l, f := randomExprs(r, r.Intn(4)), randomFacts(r)
		for _, e := range append(l, and(l...), or(l...)) {
			wantHolds(t, not(not(e)), f, Holds(e, f))
			wantHolds(t, not(e), f, !Holds(e, f))
		}
		wantHolds(t, not(and(l...)), f, Holds(or(nots(l)...), f))
		wantHolds(t, not(or(l...)), f, Holds(and(nots(l)...), f))
	}
}

// P15.2: the same of ands and ors of which each part holds, or doesn't, as it comes.
func TestNotOfAndsAndOrs(t *testing.T) {
	for size := 2; size < 8; size++ {
		for bits := range 1 << size {
			l := parts(size, bits, false)
			wantHolds(t, or(nots(l)...), full(), bits != 1<<size-1)
			wantHolds(t, and(nots(l)...), full(), bits == 0)
			wantHolds(t, not(or(nots(l)...)), full(), Holds(and(l...), full()))
			wantHolds(t, not(and(nots(l)...)), full(), Holds(or(l...), full()))
		}
	}
}

// P15.1: the first rule: where the first, the last, several, none of them holds.
func TestFirst(t *testing.T) {
	yes, no, always := api.Rule{When: fn(16)}, api.Rule{When: fn(3)}, api.Rule{}
	for _, one := range []struct {
		l    []api.Rule
		want int
	}{
		{nil, -1},
		{[]api.Rule{}, -1},
		{[]api.Rule{yes, always}[:0], -1},
		{[]api.Rule{no, yes}[:1], -1},
		{[]api.Rule{yes}, 0},
		{[]api.Rule{no}, -1},
		{[]api.Rule{always}, 0},
		{[]api.Rule{yes, no, no}, 0},
		{[]api.Rule{no, yes, no}, 1},
		{[]api.Rule{no, no, yes}, 2},
		{[]api.Rule{no, yes, yes}, 1},
		{[]api.Rule{yes, yes, yes}, 0},
		{[]api.Rule{no, no, no}, -1},
		{[]api.Rule{no, no, no, always}, 3},
		{[]api.Rule{no, yes, no, always}, 1},
		{[]api.Rule{always, yes, always}, 0},
		{[]api.Rule{no, always, yes}, 1},
		{[]api.Rule{{When: not(fn(16))}, {When: not(fn(3))}}, 1},
	} {
		wantFirst(t, one.l, full(), one.want)
	}
}

// P15.1: what else is in a rule doesn't count for the first one.
func TestFirstGoesByWhenAlone(t *testing.T) {
	for bits := range 16 {
		a := api.Rule{Allow: bits&1 > 0, When: fn(3)}
		b := api.Rule{Allow: bits&2 > 0, When: fn(16)}
		if bits&4 > 0 {
			a.Rate, a.Line = api.Rate{Num: 1, Per: 1, Burst: 1}, 7
		}
		if bits&8 > 0 {
			b.Rate, b.Line = api.Rate{Num: 1, Per: 1}, -7
		}
		wantFirst(t, []api.Rule{a, b}, full(), 1)
		wantFirst(t, []api.Rule{b, a}, full(), 0)
		wantFirst(t, []api.Rule{a, a}, full(), -1)
		wantFirst(t, []api.Rule{a, a, b, b}, full(), 2)
	}
}

// P15.1: of many rules each place is told.
func TestFirstOfMany(t *testing.T) {
	for _, size := range []int{1, 2, 63, 64, 65, 1000} {
		l := slices.Repeat([]api.Rule{{When: fn(3)}}, size)
		wantFirst(t, l, full(), -1)
		wantFirst(t, append(slices.Clone(l), api.Rule{}), full(), size)
		for at := size - 1; at >= 0; at-- {
			l[at].When = fn(16)
			wantFirst(t, l, full(), at)
		}
	}
}

// P15.1: from a policy's text and a request's bytes on.
func TestOfTexts(t *testing.T) {
	const (
		read      = "\x03\x00\x08\x00\x03" // the addresses 8 to 10
		readLess  = "\x03\x00\x08\x00\x02"
		one       = "\x06\x00\x01\x00\x05"
		both      = "\x17\x00\x03\x00\x02\x00\x0a\x00\x01\x02\x00\x05" // reads 3 to 4, writes 10
		warm      = "\x10\x00\x00\x00\x04\x08\x40\x34\x00\x00\x00\x00\x00\x00"
		noNumber  = "\x10\x00\x00\x00\x04\x08\x7f\xf8\x00\x00\x00\x00\x00\x00"
		threeRegs = "\x10\x00\x00\x00\x03\x06\x40\x34\x00\x00\x00\x00"
		coils     = "\x0f\x00\x03\x00\x04\x01\x0d"
	)
	for _, row := range []struct {
		policy, pdu string
		want        int
	}{
		{"", read, -1},
		{"deny when func 6; allow;", one, 0},
		{"deny when func 6; allow;", read, 1},
		{"allow when addr 0-9;", readLess, 0},
		{"allow when addr 0-9;", read, -1},
		{"allow when addr 0-9;", both, -1},
		{"allow when addr 0-4,10;", both, 0},
		{"allow when addr 3,4,10;", both, 0},
		{"deny when not real -5 to 5; allow;", noNumber, 0},
		{"deny when not real -5 to 5; allow;", warm, 0},
		{"deny when not real -5 to 20; allow;", warm, 1},
		{"deny when not real -5 to 5; allow;", threeRegs, 0},
		{"deny when not real -inf to inf; allow;", one, 0},
		{"deny when not real -inf to inf; allow;", read, 1},
		{"deny when not real -inf to inf; allow;", coils, 1},
		{"deny when value 1; allow;", coils, 1},
		{"deny when value 0-1; allow;", coils, 0},
		{"deny when value 9; allow;", read, 0},
		{"allow when unit 17 and (func 3 or func 16) and not client 2;", read, 0},
		{"allow when unit 17 and (func 3 or func 16) and not client 2;", warm, 0},
		{"allow when unit 17 and (func 3 or func 16) and not client 2;", one, -1},
		{"allow when unit 17 and (func 3 or func 16) and not client 1;", read, -1},
		{"allow when client 5 or func 3 and addr 0-10;", read, 0},
		{"deny when client 0; deny when unit 1; allow when func 23 rate 1 per 2 burst 1; allow;", both, 2},
	} {
		l, _, e := parse.Text(row.policy)
		if _, _, used := check.Policy(row.policy); e != api.OK || used != api.OK {
			t.Fatalf("%q is no policy: the test is wrong", row.policy)
		}
		a, e := ask.Get(row.pdu)
		if e != api.OK {
			t.Fatalf("%q is no request: the test is wrong", row.pdu)
		}
		wantFirst(t, l, facts.Of(1, 17, a), row.want)
	}
}

// Rule 4: lists that hold nothing are alike, nil or empty.
func TestEmptyLists(t *testing.T) {
	bare := api.Facts{Client: 1, Unit: 17, Func: 16}
	empty := bare
	empty.Spans, empty.Values, empty.Regs = of(1, 2)[:0], []int{1}[:0], []int{}
	good, bad := fieldAtoms()
	for i, e := range append(good, bad...) {
		// The last three of each ask of lists, and of none of these all is so.
		want := i < 6 || i > 8
		wantHolds(t, e, bare, want)
		wantHolds(t, e, empty, want)
		e.Of = []api.Expr{}
		if e.Field == 6 {
			e.Ranges = []api.Range{}
		}
		wantHolds(t, e, empty, want)
	}
	wantHolds(t, api.Expr{Ranges: []api.Range{}, Of: []api.Expr{}}, empty, true)
}

// roomy is what is handed in, with spare room behind each list; tell tells all of it, the room too.
type roomy struct {
	rules []api.Rule
	f     api.Facts
}

func newRoomy() roomy {
	ranges := append(of(9, 9, 5, 6, 1, 2, 4, 3), of(70, 71, 60, 61)...)
	atom := api.Expr{Kind: 1, Field: 4, Ranges: ranges[:4]}
	values := api.Expr{Kind: 1, Field: 5, Ranges: ranges[:4]}
	list := []api.Expr{not(atom), values, fn(9), not(floats(0, 5)), fn(70), fn(71)}
	rules := []api.Rule{{When: and(list[:4]...), Line: 3}, {When: or(list[:4]...)}, {When: fn(70)}, {When: fn(71), Line: 5}}
	f := api.Facts{Client: 5, Unit: 4, Func: 9}
	f.Spans = append(of(5, 6, 1, 2), of(90, 80)...)[:2]
	f.Values = append([]int{9, 5, 1}, 80, 81)[:3]
	f.Regs = append(regs(9, 1), 80, 81)[:8]
	return roomy{rules[:2], f}
}

func (in roomy) tell() string {
	var b strings.Builder
	for _, r := range in.rules[:4] {
		fmt.Fprint(&b, r)
		if r.When.Kind > 1 {
			l := r.When.Of[:6]
			fmt.Fprint(&b, l, l[0].Of[0].Ranges[:6], l[1].Ranges[:6])
		}
	}
	fmt.Fprint(&b, in.f, in.f.Spans[:3], in.f.Values[:5], in.f.Regs[:10])
	return b.String()
}

// Rule 5: what is handed in stays, its spare room too, behind each call: two changes might undo each other.
func TestWhatIsHandedInStays(t *testing.T) {
	in := newRoomy()
	before := in.tell()
	stays := func() {
		t.Helper()
		if in.tell() != before {
			t.Fatalf("%s became %s", before, in.tell())
		}
	}
	for _, r := range in.rules {
		Holds(r.When, in.f)
		stays()
		for _, part := range r.When.Of {
			Holds(part, in.f)
			stays()
		}
	}
	wantFirst(t, in.rules[:1], in.f, -1)
	stays()
	wantFirst(t, in.rules, in.f, 1)
	stays()
}

// Rule 6: a call hangs on its arguments alone: nothing of the ones ahead is left in an answer.
func TestNothingIsKept(t *testing.T) {
	e, f := or(fn(3), ranged(5, 7, 8)), full()
	for range 3 {
		wantHolds(t, e, f, true)
		f.Values[1] = 9
		wantHolds(t, e, f, false)
		wantFirst(t, []api.Rule{{When: e}}, f, -1)
		e.Of[1].Ranges[0].High = 9
		wantHolds(t, e, f, true)
		wantFirst(t, []api.Rule{{When: e}}, f, 0)
		e.Of[1].Ranges[0].High, f.Values[1] = 8, 8
	}
}

// Rule 1: of what may not be nothing is promised; still no call panics.
func TestWhatMayNotBe(t *testing.T) {
	for kind := -1; kind < 7; kind++ {
		for number := -1; number < 9; number++ {
			for _, l := range [][]api.Expr{nil, {}, {{}}, {fn(3), {Kind: 2}}, {{Kind: 3}, {Kind: 9, Field: -1}}} {
				e := api.Expr{Kind: kind, Field: number, Ranges: of(greatest, least, least, greatest), Low: math.NaN(), Of: l}
				Holds(e, full())
				First([]api.Rule{{When: e}}, api.Facts{})
			}
		}
	}
}
