package check

import (
	"fmt"
	"math"
	"math/rand"
	"slices"
	"strconv"
	"strings"
	"testing"

	"gatewarden/api"
	"gatewarden/parse"
	"gatewarden/tree"
)

const (
	least    = math.MinInt
	greatest = math.MaxInt
	most     = 1 << 53
	top      = 1 << 20
)

var (
	minusNought = math.Copysign(0, -1)
	infinite    = math.Inf(1)
	oneRate     = api.Rate{Num: 1, Per: 1, Burst: 1}
)

// field is one that has ranges, its word, and the greatest number of its ranges.
type field struct {
	number int
	word   string
	high   int
}

func fields() []field {
	return []field{{1, "client", 255}, {2, "unit", 255}, {3, "func", 255}, {4, "addr", 65535}, {5, "value", 65535}}
}

// ranged makes an atom of a field and ranges whose ends stand by twos.
func ranged(field int, ends ...int) api.Expr {
	e := api.Expr{Kind: 1, Field: field}
	for i := 0; i+1 < len(ends); i += 2 {
		e.Ranges = append(e.Ranges, api.Range{Low: ends[i], High: ends[i+1]})
	}
	return e
}

func fn(n int) api.Expr { return ranged(3, n, n) }

func floats(low, high float64) api.Expr {
	return api.Expr{Kind: 1, Field: 6, Low: low, High: high}
}

func made(kind int, l ...api.Expr) api.Expr { return api.Expr{Kind: kind, Of: l} }

func not(l ...api.Expr) api.Expr { return made(2, l...) }
func and(l ...api.Expr) api.Expr { return made(3, l...) }
func or(l ...api.Expr) api.Expr  { return made(4, l...) }

// below puts e so many levels deep, by nots, ands and ors in turn.
func below(e api.Expr, levels int) api.Expr {
	for i := range levels {
		switch i % 4 {
		case 0:
			e = not(e)
		case 1:
			e = and(e, fn(1))
		case 2:
			e = or(fn(2), e)
		default:
			e = and(floats(1, 2), e, ranged(4, 65535, 65535))
		}
	}
	return e
}

// told shows what is too long to be read without its middle.
func told(x any) string {
	s := fmt.Sprintf("%+v", x)
	if len(s) > 1500 {
		return s[:700] + " .. " + s[len(s)-700:]
	}
	return s
}

func wantRule(t *testing.T, r api.Rule, want api.Errno) {
	t.Helper()
	if e := Rule(r); e != want {
		t.Fatalf("Rule(%s) = %d; want %d", told(r), e, want)
	}
}

// wantWhen asks for an expression in a rule that allows, with a rate and without one, and in one that denies; in whatever line.
func wantWhen(t *testing.T, e api.Expr, want api.Errno) {
	t.Helper()
	wantRule(t, api.Rule{Allow: true, When: e}, want)
	wantRule(t, api.Rule{When: e, Line: 7}, want)
	wantRule(t, api.Rule{Allow: true, When: e, Rate: oneRate, Line: least}, want)
	wantRule(t, api.Rule{Allow: true, When: e, Rate: api.Rate{Num: top, Per: top, Burst: top}, Line: greatest}, want)
}

func wantPolicy(t *testing.T, s string, want []api.Rule) {
	t.Helper()
	got, line, e := Policy(s)
	if e != api.OK || line != 0 || !tree.Rules(got, want) {
		t.Fatalf("Policy(%q) = %s, %d, %d; want %s, 0, 0", told(s), told(got), line, e, told(want))
	}
	for i := range got {
		if got[i].Line != want[i].Line {
			t.Fatalf("Policy(%q): the rule %d has the line %d; want %d", told(s), i, got[i].Line, want[i].Line)
		}
	}
}

func wantFault(t *testing.T, s string, line int, want api.Errno) {
	t.Helper()
	got, gotLine, e := Policy(s)
	if len(got) != 0 || gotLine != line || e != want {
		t.Fatalf("Policy(%q) = %s, %d, %d; want none, %d, %d", told(s), told(got), gotLine, e, line, want)
	}
}

// wantText asks for a rule's expression in a policy's text, in rules of both words.
func wantText(t *testing.T, s string, want api.Errno) {
	t.Helper()
	for _, text := range []string{"allow when " + s + ";", "deny when " + s + ";", "allow when " + s + " rate 1 per 2 burst 3;"} {
		line := 0
		if want != api.OK {
			line = 1
		}
		if l, at, e := Policy(text); e != want || at != line || (len(l) == 1) != (want == api.OK) {
			t.Fatalf("Policy(%q) = %s, %d, %d; want %d", told(text), told(l), at, e, want)
		}
	}
}

// goodAtoms may be used; goodAtoms and wrongAtoms may be.
func goodAtoms() []api.Expr {
	l := []api.Expr{floats(0, 0), floats(minusNought, 0), floats(0, minusNought), floats(-infinite, infinite), floats(-5, 40), floats(most, most), ranged(3, 0, 0, 255, 255, 0, 255, 7, 7)}
	for _, f := range fields() {
		l = append(l, ranged(f.number, 0, 0), ranged(f.number, f.high, f.high), ranged(f.number, 0, f.high))
	}
	return l
}

// wrongAtoms have a range, or a bound, that isn't as said.
func wrongAtoms() []api.Expr {
	l := []api.Expr{floats(1, 0), floats(0, -1), floats(infinite, -infinite), floats(infinite, most), floats(-most, -infinite), floats(40, -5)}
	for _, f := range fields() {
		l = append(l, ranged(f.number, 1, 0), ranged(f.number, f.high, f.high-1), ranged(f.number, f.high+1, f.high+1), ranged(f.number, 0, f.high+1), ranged(f.number, 0, most), ranged(f.number, 0, f.high, 5, 4))
	}
	return l
}

// noExprs are expressions that may not be, each by one thing.
func noExprs() []api.Expr {
	notOne := math.NaN()
	l := []api.Expr{
		not(), and(), or(), not(fn(1), fn(2)), and(fn(1)), or(fn(1)), not(api.Expr{}), and(api.Expr{}, fn(1)), or(fn(1), api.Expr{}), and(fn(1), fn(2), not(api.Expr{})),
		{Kind: -1}, {Kind: 5}, {Kind: 9}, {Kind: least}, {Kind: greatest}, made(5, fn(1), fn(2)), made(-1, fn(1)),
		{Field: 3}, {Ranges: []api.Range{{Low: 1, High: 2}}}, {Of: []api.Expr{fn(1)}}, {Low: 1}, {High: 1}, {Low: minusNought}, {High: notOne},
		{Kind: 2, Field: 3, Of: []api.Expr{fn(1)}}, {Kind: 3, High: 1, Of: []api.Expr{fn(1), fn(2)}}, {Kind: 4, Ranges: []api.Range{{}}, Of: []api.Expr{fn(1), fn(2)}},
		ranged(0, 1, 1), ranged(-1, 1, 1), ranged(6, 1, 1), ranged(7, 1, 1), ranged(least, 1, 1), ranged(greatest, 1, 1), {Kind: 1}, {Kind: 1, Low: 1, High: 2}, {Kind: 1, Field: 7, Low: 1, High: 2},
		{Kind: 1, Field: 6, Low: 1, High: 2, Ranges: []api.Range{{Low: 1, High: 2}}}, {Kind: 1, Field: 6, Low: 1, High: 2, Of: []api.Expr{fn(1)}},
		{Kind: 1, Field: 3, Ranges: []api.Range{{}}, Of: []api.Expr{fn(1)}},
	}
	for _, x := range []float64{notOne, 0.5, -0.5, most + 2, -most - 2, math.MaxFloat64, math.SmallestNonzeroFloat64} {
		l = append(l, floats(x, infinite), floats(-infinite, x), floats(x, x), floats(infinite, x))
	}
	for _, f := range fields() {
		low, high := ranged(f.number, 1, 2), ranged(f.number, 1, 2)
		low.Low, high.High = minusNought, 1
		l = append(l, low, high, ranged(f.number))
		for _, n := range []int{-1, -255, least, most + 1, greatest} {
			l = append(l, ranged(f.number, n, n), ranged(f.number, n, 1), ranged(f.number, 1, n), ranged(f.number, 1, 2, 3, n), ranged(f.number, n, 2, 3, 4))
		}
	}
	return l
}

// noRates are such that a rule may not have, whatever else it says.
func noRates() []api.Rate {
	l := []api.Rate{{Num: 1}, {Burst: 1}, {Num: 1, Burst: 1}, {Num: top + 1, Burst: top + 1}, {Num: most}, {Burst: most}, {Num: -1}, {Burst: -1}, {Num: least}, {Burst: greatest}}
	for _, n := range []int{-1, -top, least, most + 1, greatest} {
		l = append(l, api.Rate{Num: n, Per: 1, Burst: 1}, api.Rate{Num: 1, Per: n, Burst: 1}, api.Rate{Num: 1, Per: 1, Burst: n}, api.Rate{Per: n}, api.Rate{Num: n, Per: n, Burst: n}, api.Rate{Num: 0, Per: top + 1, Burst: n})
	}
	return l
}

// wrongRates are such that a rule may have, but not one that may be used.
func wrongRates() []api.Rate {
	l := []api.Rate{{Per: 1}, {Per: top}, {Num: top + 1, Per: top + 1, Burst: top + 1}, {Num: 0, Per: most, Burst: 0}}
	for _, n := range []int{0, top + 1, top + 2, 1 << 21, 1 << 32, 1<<32 + 1, most - 1, most} {
		l = append(l, api.Rate{Num: n, Per: 1, Burst: 1}, api.Rate{Num: top, Per: 7, Burst: n})
		if n != 0 {
			l = append(l, api.Rate{Num: 1, Per: n, Burst: 1}, api.Rate{Num: top, Per: n, Burst: top})
		}
	}
	return l
}

func goodRates() []api.Rate {
	l := []api.Rate{{}}
	for _, n := range []int{1, 2, 1000, top - 1, top} {
		l = append(l, api.Rate{Num: n, Per: 1, Burst: 1}, api.Rate{Num: 1, Per: n, Burst: 1}, api.Rate{Num: 1, Per: 1, Burst: n}, api.Rate{Num: n, Per: n, Burst: n})
	}
	return l
}

// places puts e alone, first and in the middle and last of several, below nots, ands and ors.
func places(e api.Expr) []api.Expr {
	a, b := fn(3), floats(-5, 40)
	return []api.Expr{
		e, not(e), not(not(e)), and(e, a), and(a, e), or(e, a), or(a, e), and(e, a, b), and(a, e, b), and(a, b, e), or(e, a, b), or(a, e, b), or(a, b, e),
		not(and(a, e)), not(or(e, a)), and(a, not(e)), or(not(e), a), and(b, or(a, e)), or(b, and(e, a)), and(and(a, e), b), or(or(a, b), or(b, e)),
		and(e, e), or(e, not(e)), below(e, 15), below(e, 196), below(e, 197), below(e, 198), below(e, 199), below(e, 200),
	}
}

// P13.1: rules without an expression, in any line.
func TestRuleOfAll(t *testing.T) {
	for _, line := range []int{0, 1, -1, least, greatest} {
		wantRule(t, api.Rule{Line: line}, api.OK)
		wantRule(t, api.Rule{Allow: true, Line: line}, api.OK)
		wantRule(t, api.Rule{Allow: true, Rate: oneRate, Line: line}, api.OK)
	}
	wantRule(t, api.Rule{When: api.Expr{Ranges: []api.Range{}, Of: []api.Expr{}}}, api.OK)
}

// P13.1: each field's ranges, at their ends: Low at most High, and High at most what the field has.
func TestRangesOfEachField(t *testing.T) {
	for _, f := range fields() {
		numbers := []int{0, 1, 2, 127, 128, 254, 255, 256, 257, 511, 512, 32768, 65534, 65535, 65536, 65537, 1 << 31, 1 << 32, 1<<32 + 1, most - 1, most}
		for _, low := range numbers {
			for _, high := range numbers {
				want := api.ErrRange
				if low <= high && high <= f.high {
					want = api.OK
				}
				wantWhen(t, ranged(f.number, low, high), want)
				s := f.word + " " + strconv.Itoa(low) + "-" + strconv.Itoa(high)
				wantText(t, s, want)
				if low == high {
					wantText(t, f.word+" "+strconv.Itoa(low), want)
				}
			}
		}
	}
}

// P13.1: each number of a byte, and around, as a range of its own.
func TestEachSmallNumber(t *testing.T) {
	for _, f := range fields() {
		for n := range 600 {
			want := api.OK
			if n > f.high {
				want = api.ErrRange
			}
			wantRule(t, api.Rule{When: ranged(f.number, n, n)}, want)
			wantRule(t, api.Rule{When: ranged(f.number, 0, n)}, want)
			wantRule(t, api.Rule{When: ranged(f.number, n+1, n)}, api.ErrRange)
		}
	}
}

// P13.1: bounds of floats: Low at most High, whatever these are; -0 and 0 are equal there.
func TestBounds(t *testing.T) {
	bounds := []float64{-infinite, -most, 1 - most, -65536, -2, -1, minusNought, 0, 1, 2, 255, 256, 65535, 65536, most - 1, most, infinite}
	text := func(x float64) string {
		return strings.ToLower(strings.TrimPrefix(strconv.FormatFloat(x, 'f', -1, 64), "+"))
	}
	for i, low := range bounds {
		for j, high := range bounds {
			want := api.OK
			noughts := low == 0 && high == 0
			if i > j && !noughts {
				want = api.ErrRange
			}
			wantWhen(t, floats(low, high), want)
			wantWhen(t, or(fn(1), not(floats(low, high))), want)
			wantText(t, "real "+text(low)+" to "+text(high), want)
		}
	}
	wantText(t, "real -0 to 0", api.OK)
	wantText(t, "real 0 to -0", api.OK)
	wantText(t, "real -inf to inf", api.OK)
	wantText(t, "real inf to inf", api.OK)
	wantText(t, "real -inf to -inf", api.OK)
	wantText(t, "real inf to -inf", api.ErrRange)
	wantText(t, "real 3 to 2", api.ErrRange)
	wantText(t, "real 3 to 3", api.OK)
}

// P13.1: several ranges, of which one alone is wrong, at each place.
func TestOneWrongRangeOfSeveral(t *testing.T) {
	for _, f := range fields() {
		good := [][]int{{0, 0}, {f.high, f.high}, {0, f.high}, {5, 9}}
		wantWhen(t, ranged(f.number, slices.Concat(good...)...), api.OK)
		for _, wrong := range [][]int{{1, 0}, {f.high, 0}, {f.high + 1, f.high + 1}, {0, f.high + 1}, {f.high, f.high + 1}, {most, 0}} {
			wantWhen(t, ranged(f.number, 3, 3, wrong[0], wrong[1]), api.ErrRange)
			wantWhen(t, ranged(f.number, wrong[0], wrong[1], 3, 3), api.ErrRange)
			for place := range len(good) + 1 {
				ends := slices.Concat(slices.Insert(slices.Clone(good), place, wrong)...)
				wantWhen(t, ranged(f.number, ends...), api.ErrRange)
			}
		}
		wantText(t, f.word+" 0-3,7,"+strconv.Itoa(f.high), api.OK)
		wantText(t, f.word+" 0-3,7,"+strconv.Itoa(f.high+1), api.ErrRange)
		wantText(t, f.word+" 0-3,3-2", api.ErrRange)
		wantText(t, f.word+" 3-2,0-3", api.ErrRange)
	}
	many := ranged(4)
	for i := range 70000 {
		many.Ranges = append(many.Ranges, api.Range{Low: min(i, 65535), High: 65535})
	}
	wantWhen(t, many, api.OK)
	many.Ranges[69999] = api.Range{Low: 1, High: 0}
	wantWhen(t, many, api.ErrRange)
}

// P13.1: ranges don't need to be in order, nor apart.
func TestRangesInAnyOrder(t *testing.T) {
	wantWhen(t, ranged(3, 9, 9, 1, 1, 1, 9, 1, 9), api.OK)
	wantWhen(t, ranged(5, 65535, 65535, 0, 65535, 0, 0), api.OK)
	wantText(t, "unit 9,1,1-9", api.OK)
}

// P13.1: an atom at each place of an expression.
func TestAtomsAtEachPlace(t *testing.T) {
	for _, e := range goodAtoms() {
		for _, outer := range places(e) {
			wantWhen(t, outer, api.OK)
		}
	}
	for _, e := range wrongAtoms() {
		for _, outer := range places(e) {
			wantWhen(t, outer, api.ErrRange)
		}
	}
}

// P13.1: one wrong atom among many, at each place.
func TestOneWrongAtomOfMany(t *testing.T) {
	for _, kind := range []int{3, 4} {
		wide := made(kind)
		for i := range 300 {
			wide.Of = append(wide.Of, ranged(1+i%5, i%256, 255))
		}
		wantWhen(t, wide, api.OK)
		for i := range wide.Of {
			was := wide.Of[i]
			wide.Of[i] = floats(1, 0)
			wantRule(t, api.Rule{When: wide}, api.ErrRange)
			wide.Of[i] = not(ranged(was.Field, 5, 4))
			wantRule(t, api.Rule{When: wide}, api.ErrRange)
			wide.Of[i] = was
		}
	}
}

// P13.1: ErrArg of what may not be, at each place, whatever else is wrong too.
func TestRulesThatMayNotBe(t *testing.T) {
	wrongRate := api.Rate{Num: 0, Per: 1, Burst: top + 1}
	for _, e := range noExprs() {
		wantWhen(t, e, api.ErrArg)
		for _, rate := range []api.Rate{{}, oneRate, wrongRate} {
			wantRule(t, api.Rule{When: e, Rate: rate}, api.ErrArg)
			wantRule(t, api.Rule{Allow: true, When: e, Rate: rate}, api.ErrArg)
		}
		if e.Kind == api.ExprAtom {
			wantRule(t, api.Rule{When: below(e, 200)}, api.ErrArg)
		}
		for _, outer := range []api.Expr{
			not(e), and(e, fn(1)), or(fn(1), e), and(ranged(3, 300, 300), e), and(e, ranged(4, 5, 4)), or(floats(2, 1), fn(3), e), and(fn(1), or(floats(2, 1), not(e))),
		} {
			wantRule(t, api.Rule{When: outer}, api.ErrArg)
			wantRule(t, api.Rule{When: outer, Rate: wrongRate}, api.ErrArg)
		}
	}
	for _, e := range append(append(goodAtoms(), wrongAtoms()...), api.Expr{}) {
		for _, rate := range noRates() {
			wantRule(t, api.Rule{When: e, Rate: rate}, api.ErrArg)
			wantRule(t, api.Rule{Allow: true, When: e, Rate: rate}, api.ErrArg)
		}
	}
}

// P13.1: a range's numbers are numbers up to 2^53, and floats have texts, ahead of being in order.
func TestMayBeAheadOfRange(t *testing.T) {
	wantWhen(t, ranged(3, most, 0), api.ErrRange)
	wantWhen(t, ranged(3, most+1, 0), api.ErrArg)
	wantWhen(t, ranged(3, 0, most), api.ErrRange)
	wantWhen(t, ranged(3, 0, most+1), api.ErrArg)
	wantWhen(t, ranged(3, 0, -1), api.ErrArg)
	wantWhen(t, ranged(3, 300, 300, -1, 0), api.ErrArg)
	wantWhen(t, floats(most, 0), api.ErrRange)
	wantWhen(t, floats(most+2, 0), api.ErrArg)
	wantWhen(t, floats(1.5, 0), api.ErrArg)
	wantWhen(t, floats(math.NaN(), math.NaN()), api.ErrArg)
}

// P13.1: each number of a rate, at its ends, in rules that allow.
func TestRates(t *testing.T) {
	for _, e := range []api.Expr{{}, fn(3), not(and(fn(3), floats(0, 1)))} {
		for _, rate := range goodRates() {
			wantRule(t, api.Rule{Allow: true, When: e, Rate: rate}, api.OK)
		}
		for _, rate := range wrongRates() {
			wantRule(t, api.Rule{Allow: true, When: e, Rate: rate}, api.ErrRange)
		}
	}
	numbers := []int{0, 1, 2, top - 1, top, top + 1, most}
	for _, num := range numbers {
		for _, per := range numbers[1:] {
			for _, burst := range numbers {
				want := api.OK
				if min(num, burst) < 1 || max(num, per, burst) > top {
					want = api.ErrRange
				}
				wantRule(t, api.Rule{Allow: true, Rate: api.Rate{Num: num, Per: per, Burst: burst}}, want)
				s := fmt.Sprintf("rate %d per %d burst %d;", num, per, burst)
				if want == api.OK {
					wantPolicy(t, "allow "+s, []api.Rule{{Allow: true, Rate: api.Rate{Num: num, Per: per, Burst: burst}, Line: 1}})
				} else {
					wantFault(t, "allow "+s, 1, want)
				}
				wantFault(t, "\ndeny "+s, 2, api.ErrForm)
			}
		}
	}
}

// P13.1: ErrForm of a rule with a rate that denies: behind a wrong range, ahead of a wrong number of the rate.
func TestRatesOfRulesThatDeny(t *testing.T) {
	for _, rate := range append(goodRates()[1:], wrongRates()...) {
		wantRule(t, api.Rule{Rate: rate}, api.ErrForm)
		for _, e := range goodAtoms() {
			wantRule(t, api.Rule{When: e, Rate: rate}, api.ErrForm)
			wantRule(t, api.Rule{When: below(e, 5), Rate: rate}, api.ErrForm)
		}
		for _, e := range wrongAtoms() {
			wantRule(t, api.Rule{When: e, Rate: rate}, api.ErrRange)
			wantRule(t, api.Rule{When: below(e, 5), Rate: rate}, api.ErrRange)
			wantRule(t, api.Rule{Allow: true, When: e, Rate: rate}, api.ErrRange)
		}
	}
	wantFault(t, "deny rate 1 per 1 burst 1;", 1, api.ErrForm)
	wantFault(t, "deny rate 0 per 1 burst 1;", 1, api.ErrForm)
	wantFault(t, "deny when func 255 rate 0 per 1 burst 1;", 1, api.ErrForm)
	wantFault(t, "deny when func 256 rate 0 per 1 burst 1;", 1, api.ErrRange)
	wantFault(t, "deny when func 256 rate 1 per 1 burst 1;", 1, api.ErrRange)
}

// P13.1: policies all of whose rules may be used, and of no rules.
func TestPolicies(t *testing.T) {
	for _, s := range []string{"", " ", "\n\n\t\r", "# deny when func 300;\n", "#"} {
		wantPolicy(t, s, nil)
	}
	wantPolicy(t, "allow;", []api.Rule{{Allow: true, Line: 1}})
	wantPolicy(t, "\n\ndeny;", []api.Rule{{Line: 3}})
	wantPolicy(t, "allow when client 0-255 and addr 65535 rate 1 per 1048576 burst 1;\ndeny when real -0 to 0;", []api.Rule{
		{Allow: true, When: and(ranged(1, 0, 255), ranged(4, 65535, 65535)), Rate: api.Rate{Num: 1, Per: top, Burst: 1}, Line: 1},
		{When: floats(minusNought, 0), Line: 2},
	})
	wantPolicy(t, "deny when not (func 3 or\nunit 255); # reading\n\nallow\nrate 2 per 3 burst 4; allow;", []api.Rule{
		{When: not(or(fn(3), ranged(2, 255, 255))), Line: 1},
		{Allow: true, Rate: api.Rate{Num: 2, Per: 3, Burst: 4}, Line: 4},
		{Allow: true, Line: 5},
	})
	var many []api.Rule
	for i := range 64 {
		many = append(many, api.Rule{Allow: i%2 == 0, When: fn(i), Line: i + 1})
	}
	text, _ := tree.Text(many)
	wantPolicy(t, text, many)
}

// P13.1: layer 12's errors, each with its line, whatever stands ahead of them.
func TestErrorsOfText(t *testing.T) {
	wantFault(t, "allow", 0, api.ErrForm)
	wantFault(t, "deny when func", 0, api.ErrForm)
	wantFault(t, "allow;\ndeny when (unit 17;", 2, api.ErrForm)
	wantFault(t, "\n;", 2, api.ErrForm)
	wantFault(t, "allow;\n\nfunc 3;", 3, api.ErrForm)
	wantFault(t, "allow rate 1 per\n0 burst 1;", 2, api.ErrForm)
	wantFault(t, "allow;\nDeny;", 2, api.ErrWord)
	wantFault(t, "allow when func 007;", 1, api.ErrWord)
	wantFault(t, "\n\n\nallow when func 9007199254740993;", 4, api.ErrWord)
	wantFault(t, "allow when real 1.5 to 2;", 1, api.ErrWord)
	wantFault(t, "allow when real nan to 2;", 1, api.ErrForm)
	wantFault(t, strings.Repeat(" ", api.MaxText+1), 0, api.ErrMany)
	wantFault(t, strings.Repeat("deny;\n", 64)+"deny;", 65, api.ErrMany)
	wantFault(t, "deny when "+strings.Repeat("not ", 17)+"func 3;", 1, api.ErrDeep)
	wantFault(t, "allow;\ndeny when\n"+strings.Repeat("(", 17)+"func 3;", 3, api.ErrDeep)
}

// P13.1: layer 12's errors come ahead of all that rules may not say.
func TestErrorsOfTextAreFirst(t *testing.T) {
	for _, wrong := range []string{"deny when func 300;", "allow when real 3 to 2;", "allow rate 0 per 1 burst 0;"} {
		wantFault(t, wrong, 1, api.ErrRange)
		wantFault(t, wrong+"\nallow", 0, api.ErrForm)
		wantFault(t, wrong+"\n\nallow; maybe;", 3, api.ErrForm)
		wantFault(t, wrong+"\nallow;$", 2, api.ErrWord)
		wantFault(t, wrong+"\nallow when "+strings.Repeat("not ", 17)+"func 3;", 2, api.ErrDeep)
		wantFault(t, wrong+"\n"+strings.Repeat("allow;\n", 64), 65, api.ErrMany)
		wantFault(t, wrong+strings.Repeat(" ", api.MaxText), 0, api.ErrMany)
	}
}

// P13.1: of the first rule that may not be used its line and its error; the line is its own, not that of what is wrong in it.
func TestFirstWrongRule(t *testing.T) {
	wrong := []string{"deny when func 300;", "deny rate 1 per 1 burst 1;", "allow rate 1 per 1 burst 1048577;", "deny when real 3 to 2;", "deny when addr 5-4 rate 1 per 1 burst 0;"}
	want := []api.Errno{api.ErrRange, api.ErrForm, api.ErrRange, api.ErrRange, api.ErrRange}
	for i, s := range wrong {
		for place := range 5 {
			l := slices.Insert(slices.Repeat([]string{"allow when func 3;"}, 4), place, s)
			wantFault(t, strings.Join(l, "\n"), place+1, want[i])
			wantFault(t, "\n"+strings.Join(l, "\n\n"), 2*place+2, want[i])
			wantFault(t, strings.Join(l, " "), 1, want[i])
		}
		for j, other := range wrong {
			wantFault(t, s+"\n"+other, 1, want[i])
			wantFault(t, "allow;\n"+s+"\ndeny;\n"+other+"\nallow;", 2, want[i])
			wantFault(t, "allow;\n"+other+"\ndeny;\n"+s+"\nallow;", 2, want[j])
		}
		all := slices.Repeat([]string{"allow;"}, 64)
		all[63] = s
		wantFault(t, strings.Join(all, "\n"), 64, want[i])
	}
	wantFault(t, "allow;\n\ndeny\nwhen\nfunc\n3,\n256\n;\nallow;", 3, api.ErrRange)
	wantFault(t, "allow; allow\nrate\n0 per 1 burst 1; deny rate 1 per 1 burst 1;", 1, api.ErrRange)
	wantFault(t, "allow;\nallow; deny rate 1 per 1 burst 1; deny when func 300;", 2, api.ErrForm)
}

// P13.1: a wrong atom in a policy's text at each place, as deep as it may be.
func TestTextsOfPlaces(t *testing.T) {
	for _, c := range []struct {
		atom string
		want api.Errno
	}{{"func 255", api.OK}, {"func 256", api.ErrRange}, {"addr 0-65535,7-7", api.OK}, {"value 1,7-6", api.ErrRange}, {"real -5 to 5", api.OK}, {"real 5 to -5", api.ErrRange}} {
		for _, s := range []string{
			c.atom, "not " + c.atom, "(" + c.atom + ")", "func 1 and " + c.atom, c.atom + " and func 1", "func 1 or " + c.atom + " or func 2", "not (func 1 or " + c.atom + ")",
			"func 1 and (func 2 or func 3 and not " + c.atom + ")", "(" + c.atom + " or func 1) and func 2", strings.Repeat("not ", 16) + c.atom,
			strings.Repeat("(func 1 and ", 16) + c.atom + strings.Repeat(")", 16), strings.Repeat("not (", 8) + c.atom + strings.Repeat(" or func 1)", 8),
		} {
			wantText(t, s, c.want)
		}
	}
}

// maker makes random rules, with things wrong in them only where these are asked for.
type maker struct{ *rand.Rand }

func (m maker) expr(l []api.Expr, deep int) api.Expr {
	kind := 1
	if deep > 0 {
		kind = 1 + m.Intn(4)
	}
	switch kind {
	case 1:
		return l[m.Intn(len(l))]
	case 2:
		return not(m.expr(l, deep-1))
	}
	e := made(kind)
	for range 2 + m.Intn(3) {
		e.Of = append(e.Of, m.expr(l, deep-1))
	}
	return e
}

// hidden puts e somewhere among expressions of l.
func (m maker) hidden(e api.Expr, l []api.Expr, deep int) api.Expr {
	for range m.Intn(deep + 1) {
		if m.Intn(3) == 0 {
			e = not(e)
			continue
		}
		of := []api.Expr{m.expr(l, 1)}
		for range m.Intn(3) {
			of = append(of, m.expr(l, 1))
		}
		e = made(3+m.Intn(2), slices.Insert(of, m.Intn(len(of)+1), e)...)
	}
	return e
}

// rule makes a rule, and what is wrong with it first.
func (m maker) rule() (api.Rule, api.Errno) {
	r := api.Rule{Allow: m.Intn(3) > 0, Line: m.Intn(9)}
	if m.Intn(4) > 0 {
		r.When = m.expr(goodAtoms(), 3)
	}
	r.Rate = goodRates()[m.Intn(len(goodRates()))*m.Intn(2)]
	want := api.OK
	if m.Intn(4) == 0 {
		r.Rate = wrongRates()[m.Intn(len(wrongRates()))]
		want = api.ErrRange
	}
	if r.Rate.Per != 0 && !r.Allow {
		want = api.ErrForm
	}
	if m.Intn(4) == 0 {
		r.When = m.hidden(wrongAtoms()[m.Intn(len(wrongAtoms()))], goodAtoms(), 6)
		want = api.ErrRange
	}
	return r, want
}

// P13.1: random rules, right and wrong in several ways at once; some of them may not be.
func TestRandomRules(t *testing.T) {
	m := maker{rand.New(rand.NewSource(13))}
	both := append(goodAtoms(), wrongAtoms()...)
	for range 20000 {
		r, want := m.rule()
		wantRule(t, r, want)
		bad := r
		bad.When = m.hidden(noExprs()[m.Intn(len(noExprs()))], both, 5)
		wantRule(t, bad, api.ErrArg)
		r.Rate = noRates()[m.Intn(len(noRates()))]
		wantRule(t, r, api.ErrArg)
	}
}

// P13.1 and P13.2: random policies: refused by their first wrong rule, or answered as they are; each rule of these may be used by itself.
func TestRandomPolicies(t *testing.T) {
	m := maker{rand.New(rand.NewSource(31))}
	used := 0
	for range 4000 {
		var rules []api.Rule
		line, want := 0, api.OK
		for range m.Intn(6) {
			r, e := m.rule()
			r.Line = len(rules) + 1
			if e != api.OK && m.Intn(4) > 0 {
				continue
			}
			rules = append(rules, r)
			if want == api.OK && e != api.OK {
				line, want = r.Line, e
			}
		}
		text, ok := tree.Text(rules)
		if !ok {
			t.Fatalf("%s has no text", told(rules))
		}
		if len(text) > api.MaxText {
			continue
		}
		if want != api.OK {
			wantFault(t, text, line, want)
			continue
		}
		used += len(rules)
		wantPolicy(t, text, rules)
		wantByThemselves(t, text)
	}
	if used < 1000 {
		t.Fatalf("no more than %d rules were used", used)
	}
}

// wantByThemselves asks whether each rule of a policy may be used, alone as a rule, and as a policy of one.
func wantByThemselves(t *testing.T, s string) {
	t.Helper()
	l, _, e := Policy(s)
	if e != api.OK {
		t.Fatalf("Policy(%q) is refused: %d", told(s), e)
	}
	for _, r := range l {
		wantRule(t, r, api.OK)
		one, ok := tree.Text([]api.Rule{r})
		if !ok {
			t.Fatalf("%s of Policy(%q) has no text", told(r), told(s))
		}
		r.Line = 1
		wantPolicy(t, one, []api.Rule{r})
	}
}

// P13.2: the rules of a policy each by itself, at the ends of what may be used.
func TestRulesByThemselves(t *testing.T) {
	wantByThemselves(t, "allow; deny; allow rate 1 per 1 burst 1; allow rate 1048576 per 1048576 burst 1048576;")
	wantByThemselves(t, "deny when client 0-255,255 and unit 255 and func 0-255; allow when addr 65535 or value 0,65535,0-65535;\ndeny when real inf to inf or real 0 to -0;")
	wantByThemselves(t, "deny when "+strings.Repeat("not ", 16)+"func 3; allow when "+strings.Repeat("(func 1 and ", 16)+"func 2"+strings.Repeat(")", 16)+";")
	wantByThemselves(t, strings.Repeat("allow when func 3 rate 1 per 2 burst 3;\n", 64))
	wantByThemselves(t, "allow when func 1"+strings.Repeat(" or func 1", 400)+";")
}

// P13.2: a policy is answered just where layer 12 reads it and each of its rules may be used.
func TestPolicyIsTextAndRules(t *testing.T) {
	for _, s := range []string{
		"allow;", "deny when func 256;", "allow; deny rate 1 per 1 burst 1;", "allow;\n\ndeny when real 2 to 1;\nallow rate 0 per 9 burst 9;", "allow when func 1; deny", "", "deny when unit 9-9 and not addr 3-2;",
	} {
		rules, line, e := parse.Text(s)
		for _, r := range rules {
			if e = Rule(r); e != api.OK {
				line = r.Line
				break
			}
		}
		if e == api.OK {
			wantPolicy(t, s, rules)
		} else {
			wantFault(t, s, line, e)
		}
	}
}

// roomy makes an expression anew, with spare room behind each list that a call must leave alone.
func roomy(e api.Expr) api.Expr {
	ranges := append(slices.Clone(e.Ranges), api.Range{Low: 7, High: 5}, api.Range{Low: 3, High: 9})
	of := make([]api.Expr, 0, len(e.Of)+2)
	for _, part := range e.Of {
		of = append(of, roomy(part))
	}
	of = append(of, fn(70), or(fn(60), fn(50)))
	e.Ranges, e.Of = ranges[:len(e.Ranges)], of[:len(e.Of)]
	return e
}

// whole shows an expression with the spare room of its lists.
func whole(e api.Expr) string {
	out := fmt.Sprint(e.Kind, e.Field, e.Ranges[:cap(e.Ranges)], e.Low, e.High, len(e.Of), "[")
	for _, part := range e.Of[:cap(e.Of)] {
		out += whole(part) + ";"
	}
	return out + "]"
}

// Rule 5: what is handed in stays, its spare room too, whether it may be used or not.
func TestNothingHandedInIsChanged(t *testing.T) {
	for _, e := range slices.Concat(goodAtoms(), wrongAtoms(), noExprs()) {
		for _, outer := range []api.Expr{e, not(e), and(fn(1), e, floats(2, 1)), below(e, 9)} {
			r := api.Rule{When: roomy(outer), Rate: oneRate, Line: 5}
			before := whole(r.When)
			first := Rule(r)
			if whole(r.When) != before {
				t.Fatalf("Rule changed %s to %s", told(before), told(whole(r.When)))
			}
			if Rule(r) != first {
				t.Fatalf("Rule(%s) isn't the same again", told(r))
			}
		}
	}
}

// Rule 6: an answer shares nothing with another one, and hangs on nothing that was asked ahead.
func TestAnswersStandAlone(t *testing.T) {
	const s = "deny when not (func 3,4 or unit 5-6) and addr 7;\nallow when func 1 and func 2 rate 1 per 2 burst 3;"
	want := []api.Rule{
		{When: and(not(or(ranged(3, 3, 3, 4, 4), ranged(2, 5, 6))), ranged(4, 7, 7)), Line: 1},
		{Allow: true, When: and(fn(1), fn(2)), Rate: api.Rate{Num: 1, Per: 2, Burst: 3}, Line: 2},
	}
	first, _, _ := Policy(s)
	second, _, _ := Policy(s)
	first[0].When.Of[0].Of[0].Of[0].Ranges[0].Low = 99
	first[1].When.Of[1].Field = 1
	first[1] = api.Rule{}
	wantFault(t, s+"deny when func 300;", 2, api.ErrRange)
	wantFault(t, s+"\ndeny rate 1 per 1 burst 1", 0, api.ErrForm)
	wantPolicy(t, s, second)
	wantPolicy(t, s, want)
}
