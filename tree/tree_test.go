package tree

import (
	"fmt"
	"math"
	"math/rand"
	"slices"
	"strconv"
	"strings"
	"testing"

	"gatewarden/api"
)

const (
	most     = 1 << 53
	least    = math.MinInt
	greatest = math.MaxInt
)

var (
	minusNought = math.Copysign(0, -1)
	infinite    = math.Inf(1)
	notOne      = math.NaN()
	otherNaN    = math.Float64frombits(0xfff8000000000007)
)

// ranged makes an atom of a field and ranges whose ends stand by twos.
func ranged(field int, ends ...int) api.Expr {
	e := api.Expr{Kind: 1, Field: field}
	for i := 0; i+1 < len(ends); i += 2 {
		e.Ranges = append(e.Ranges, api.Range{Low: ends[i], High: ends[i+1]})
	}
	return e
}

func fn(n int) api.Expr { return ranged(3, n, n) }

func floats(low, high float64) api.Expr {
	return api.Expr{Kind: 1, Field: 6, Low: low, High: high}
}

func made(kind int, l ...api.Expr) api.Expr { return api.Expr{Kind: kind, Of: l} }

func not(l ...api.Expr) api.Expr { return made(2, l...) }
func and(l ...api.Expr) api.Expr { return made(3, l...) }
func or(l ...api.Expr) api.Expr  { return made(4, l...) }

// nested answers e within so many nots.
func nested(e api.Expr, times int) api.Expr {
	for range times {
		e = not(e)
	}
	return e
}

// tall answers e within so many ands and ors, each in the other one, at the last place of each.
func tall(e api.Expr, times int) api.Expr {
	for i := range times {
		e = made(3+i%2, fn(i), e)
	}
	return e
}

// floatKey tells floats apart as layer 3 does.
func floatKey(x float64) string {
	if math.IsNaN(x) {
		return "none"
	}
	return strconv.FormatUint(math.Float64bits(x), 16)
}

// key tells all fields of an expression: unlike ones have unlike keys.
func key(e api.Expr) string {
	var b strings.Builder
	fmt.Fprintf(&b, "{%d %d ", e.Kind, e.Field)
	for _, r := range e.Ranges {
		fmt.Fprintf(&b, "%d..%d,", r.Low, r.High)
	}
	b.WriteString(" " + floatKey(e.Low) + " " + floatKey(e.High) + " [")
	for _, part := range e.Of {
		b.WriteString(key(part))
	}
	b.WriteString("]}")
	return b.String()
}

// policyKey tells all of a policy but for its lines.
func policyKey(l []api.Rule) string {
	var b strings.Builder
	for _, r := range l {
		fmt.Fprintf(&b, "%v %v %s;", r.Allow, r.Rate, key(r.When))
	}
	return b.String()
}

func wantRight(t *testing.T, e api.Expr, want bool) {
	t.Helper()
	if got := Right(e); got != want {
		t.Fatalf("Right(%s) = %v; want %v", key(e), got, want)
	}
}

func wantSame(t *testing.T, a, b api.Expr, want bool) {
	t.Helper()
	if got := Same(a, b); got != want {
		t.Fatalf("Same(%s, %s) = %v; want %v", key(a), key(b), got, want)
	}
	if got := Same(b, a); got != want {
		t.Fatalf("Same(%s, %s) = %v; want %v", key(b), key(a), got, want)
	}
}

func wantSize(t *testing.T, e api.Expr, atoms, deep int) {
	t.Helper()
	if got := Atoms(e); got != atoms {
		t.Fatalf("Atoms(%s) = %d; want %d", key(e), got, atoms)
	}
	if got := Deep(e); got != deep {
		t.Fatalf("Deep(%s) = %d; want %d", key(e), got, deep)
	}
}

func wantText(t *testing.T, l []api.Rule, want string) {
	t.Helper()
	if got, ok := Text(l); got != want || !ok {
		t.Fatalf("Text(%s) = %q, %v; want %q, true", policyKey(l), got, ok, want)
	}
}

// wantWhen asks for the text of an expression, in a rule and a policy of it alone.
func wantWhen(t *testing.T, e api.Expr, want string) {
	t.Helper()
	wantRight(t, e, true)
	wantText(t, []api.Rule{{Allow: true, When: e}}, "allow when "+want+";\n")
}

func wantNoText(t *testing.T, l []api.Rule) {
	t.Helper()
	if got, ok := Text(l); got != "" || ok {
		t.Fatalf("Text(%s) = %q, %v; want none, false", policyKey(l), got, ok)
	}
}

func wantRules(t *testing.T, a, b []api.Rule, want bool) {
	t.Helper()
	if got := Rules(a, b); got != want {
		t.Fatalf("Rules(%s, %s) = %v; want %v", policyKey(a), policyKey(b), got, want)
	}
	if got := Rules(b, a); got != want {
		t.Fatalf("Rules(%s, %s) = %v; want %v", policyKey(b), policyKey(a), got, want)
	}
}

// bounds are floats that have a text.
func bounds() map[string]float64 {
	return map[string]float64{
		"0": 0, "-0": minusNought, "1": 1, "-1": -1, "10": 10, "-5": -5, "65535": 65535, "9007199254740991": most - 1,
		"9007199254740992": most, "-9007199254740991": 1 - most, "-9007199254740992": -most, "inf": infinite, "-inf": -infinite,
	}
}

// noBounds are floats that have none.
func noBounds() []float64 {
	return []float64{
		notOne, otherNaN, 0.5, -0.5, 1.25, -2.5, math.Pi, most + 2, -most - 2, 1e300, -1e300, math.MaxFloat64, -math.MaxFloat64,
		math.SmallestNonzeroFloat64, -math.SmallestNonzeroFloat64, most/2 - 0.5, math.Nextafter(1, 2), math.Nextafter(0, -1),
	}
}

// numbers may stand in ranges, wrongNumbers may not.
func numbers() []int { return []int{0, 1, 9, 255, 256, 65535, 65536, most - 1, most} }

func wrongNumbers() []int {
	return []int{-1, -2, -65535, -most, least, least + 1, most + 1, most + 2, greatest - 1, greatest}
}

// rightOnes are expressions that may be, of each kind but ExprAll.
func rightOnes() []api.Expr {
	a, b, c := fn(3), ranged(2, 17, 20), floats(-5, 10)
	l := []api.Expr{
		a, b, c, ranged(1, 0, 0), ranged(4, 0, 9, 20, 30), ranged(5, most, most), ranged(3, 9, 0), floats(1, 0), floats(-infinite, infinite),
		not(a), not(b), not(c), not(not(a)), and(a, b), or(a, b), and(a, a), or(c, c), and(a, b, c), or(c, b, a),
		not(and(a, b)), not(or(a, b)), and(or(a, b), c), or(and(a, b), c), and(c, and(a, b)), or(c, or(a, b)), and(not(a), not(b)),
		nested(a, 200), tall(a, 200), tall(not(or(b, and(c, a))), 190),
	}
	wide := or()
	for i := range 1000 {
		wide.Of = append(wide.Of, ranged(1+i%5, i, 2*i))
	}
	return append(l, wide)
}

// wrongOnes are expressions that may not be, each by one thing.
func wrongOnes() []api.Expr {
	a, b := fn(3), floats(-5, 10)
	l := []api.Expr{
		not(), and(), or(), not(a, b), not(a, a), not(a, b, a), and(a), or(b), and(not(a)), or(and(a, b)),
		not(api.Expr{}), and(api.Expr{}, a), and(a, api.Expr{}), or(api.Expr{}, a), or(a, api.Expr{}), and(a, api.Expr{}, b), or(a, b, api.Expr{}),
		and(api.Expr{}, api.Expr{}), or(api.Expr{}, api.Expr{}), not(api.Expr{}, a),
	}
	for _, kind := range []int{-1, -2, 5, 6, least, greatest, 1 << 32, 1<<32 + 1, 256, 257} {
		l = append(l, api.Expr{Kind: kind}, made(kind, a), made(kind, a, b), api.Expr{Kind: kind, Field: 3, Ranges: a.Ranges})
	}
	for _, field := range []int{0, -1, 7, 8, least, greatest, 1<<32 + 3, 256 + 3} {
		l = append(l, ranged(field, 1, 1), api.Expr{Kind: 1, Field: field, Low: 1, High: 2}, api.Expr{Kind: 1, Field: field})
	}
	return append(l, wrongAtoms()...)
}

// wrongAtoms are atoms of fields that there are, and may not be.
func wrongAtoms() []api.Expr {
	var l []api.Expr
	for field := 1; field <= 5; field++ {
		l = append(l, ranged(field), api.Expr{Kind: 1, Field: field, Ranges: []api.Range{}})
		for _, n := range wrongNumbers() {
			l = append(l, ranged(field, n, n), ranged(field, 0, n), ranged(field, n, most), ranged(field, 1, 2, 3, n), ranged(field, n, 1, 3, 4), ranged(field, 1, 2, n, 5, 7, 8))
		}
		for _, x := range append(noBounds(), 1, -1, minusNought, infinite, -infinite) {
			low, high := ranged(field, 1, 2), ranged(field, 1, 2)
			low.Low, high.High = x, x
			l = append(l, low, high)
		}
	}
	for _, x := range noBounds() {
		l = append(l, floats(x, 0), floats(0, x), floats(x, x))
	}
	both := floats(0, 1)
	both.Ranges = []api.Range{{Low: 0, High: 1}}
	return append(l, both)
}

// strange are expressions with one field set that has no meaning in their kind.
func strange() []api.Expr {
	var l []api.Expr
	for _, e := range []api.Expr{{}, not(fn(1)), and(fn(1), fn(2)), or(fn(1), fn(2), fn(3))} {
		for _, field := range []int{1, 3, 6, 7, -1, least, greatest} {
			e.Field = field
			l = append(l, e)
		}
		e.Field = 0
		for _, ranges := range [][]api.Range{{{}}, {{Low: 1, High: 1}}, {{Low: 1, High: 2}, {Low: 4, High: 5}}} {
			e.Ranges = ranges
			l = append(l, e)
		}
		e.Ranges = nil
		for _, x := range append(noBounds(), 1, -1, minusNought, infinite) {
			low, high := e, e
			low.Low, high.High = x, x
			l = append(l, low, high)
		}
	}
	for _, e := range []api.Expr{{}, fn(1), floats(1, 2)} {
		for _, of := range [][]api.Expr{{{}}, {fn(1)}, {fn(1), fn(2)}} {
			e.Of = of
			l = append(l, e)
		}
	}
	return l
}

// P11.1: Right of each kind, and of ExprAll.
func TestRightOfEachKind(t *testing.T) {
	wantRight(t, api.Expr{}, true)
	wantRight(t, api.Expr{Ranges: []api.Range{}, Of: []api.Expr{}}, true)
	for _, e := range rightOnes() {
		wantRight(t, e, true)
	}
}

// P11.1: an atom of each field with ranges may have one range or more, of numbers from 0 to 2^53, in any order.
func TestRightOfRanges(t *testing.T) {
	for field := 1; field <= 5; field++ {
		for _, low := range numbers() {
			for _, high := range numbers() {
				wantRight(t, ranged(field, low, high), true)
				wantRight(t, ranged(field, 7, 8, low, high), true)
				wantRight(t, ranged(field, low, high, low, high, 0, most), true)
			}
		}
		full := ranged(field, 1, 1)
		full.Of = []api.Expr{}
		wantRight(t, full, true)
	}
}

// P11.1: bounds of floats are such that have a text, in any order.
func TestRightOfBounds(t *testing.T) {
	for _, low := range bounds() {
		for _, high := range bounds() {
			wantRight(t, floats(low, high), true)
			for _, wrong := range noBounds() {
				wantRight(t, floats(low, wrong), false)
				wantRight(t, floats(wrong, high), false)
			}
		}
	}
	empty := floats(1, 2)
	empty.Ranges, empty.Of = []api.Range{}, []api.Expr{}
	wantRight(t, empty, true)
}

// P11.1: what may not be, alone and at each place within others.
func TestRightRefuses(t *testing.T) {
	a, b := fn(1), floats(0, 1)
	for _, e := range append(wrongOnes(), strange()...) {
		wantRight(t, e, false)
		for _, outer := range []api.Expr{
			not(e), and(e, a), and(a, e), or(e, a), or(a, e), and(e, a, b), and(a, e, b), and(a, b, e), or(e, a, b), or(a, e, b), or(a, b, e),
			not(not(e)), not(and(a, e)), and(a, not(e)), or(and(e, a), b), or(b, and(a, e)), and(b, or(a, e)), and(e, e), or(e, e),
			nested(e, 190), tall(e, 190),
		} {
			wantRight(t, outer, false)
		}
	}
}

// P11.1: ExprAll may be alone, but stand in nothing, not even deep within what may be.
func TestRightOfExprAll(t *testing.T) {
	for _, outer := range []func(api.Expr) api.Expr{
		func(e api.Expr) api.Expr { return not(e) },
		func(e api.Expr) api.Expr { return and(fn(1), e) },
		func(e api.Expr) api.Expr { return or(e, fn(1)) },
		func(e api.Expr) api.Expr { return and(fn(1), or(fn(2), not(e))) },
	} {
		wantRight(t, outer(fn(7)), true)
		wantRight(t, outer(api.Expr{}), false)
	}
}

// apart are expressions, no two of which are the same, many of them by one field, range or place alone.
func apart() []api.Expr {
	a, b, c := fn(1), fn(2), floats(0, 1)
	l := []api.Expr{
		{}, {Kind: 1}, {Kind: 5}, {Kind: -1}, {Field: 1}, {Field: 3}, {Ranges: []api.Range{{}}}, {Ranges: []api.Range{{}, {}}},
		{Low: 1}, {High: 1}, {Low: minusNought}, {High: minusNought}, {Low: notOne}, {High: notOne}, {Low: notOne, High: notOne},
		{Of: []api.Expr{{}}}, {Of: []api.Expr{{}, {}}}, {Of: []api.Expr{{Of: []api.Expr{{}}}}}, {Kind: 5, Of: []api.Expr{{}}},
		a, b, ranged(2, 1, 1), ranged(3, 1, 2), ranged(3, 0, 1), ranged(3, 1, 1, 2, 2), ranged(3, 2, 2, 1, 1), ranged(3, 1, 1, 1, 1),
		ranged(3, 1, 2, 3, 4), ranged(3, 1, 2, 3, 5), ranged(3, 1, 2, 4, 4), ranged(3, 1, 3, 3, 4), ranged(3, 0, 2, 3, 4), ranged(3, 3, 4, 1, 2),
		ranged(3, least, greatest), ranged(3, -1, -1),
		c, floats(1, 0), floats(0, 0), floats(minusNought, 0), floats(0, minusNought), floats(minusNought, minusNought), floats(minusNought, 1),
		floats(notOne, 1), floats(0, notOne), floats(-infinite, infinite), floats(infinite, -infinite), floats(math.Nextafter(0, 1), 1), floats(0, math.Nextafter(1, 2)),
		not(), not(a), not(b), not(c), not(a, b), not(not(a)), not(not(not(a))), not(api.Expr{}),
		and(), and(a), and(a, b), and(b, a), and(a, a), and(a, b, c), and(a, c, b), and(c, a, b), and(a, b, c, c), and(not(a), b), and(a, not(b)),
		or(), or(a), or(a, b), or(b, a), or(a, a), or(a, b, c), or(c, b, a), or(not(a), b), not(or(a, b)), not(and(a, b)),
		and(and(a, b), c), and(a, and(b, c)), and(or(a, b), c), or(and(a, b), c), or(a, and(b, c)), or(or(a, b), c), or(a, or(b, c)),
		and(a, or(b, c)), and(a, or(c, b)), and(a, not(or(b, c))), and(a, not(or(b, fn(3)))), and(a, not(or(b, fn(4)))), tall(fn(1), 199), tall(fn(2), 199), tall(fn(1), 197), nested(a, 200), nested(b, 200), nested(a, 199),
	}
	return l
}

// again makes an expression anew, with lists of its own, nil ones as empty ones and the other way round.
func again(e api.Expr) api.Expr {
	ranges, of := e.Ranges, e.Of
	e.Ranges, e.Of = nil, nil
	if len(ranges) > 0 || ranges == nil {
		e.Ranges = append(make([]api.Range, 0, 9), ranges...)
	}
	if len(of) > 0 || of == nil {
		e.Of = make([]api.Expr, 0, 9)
	}
	for _, part := range of {
		e.Of = append(e.Of, again(part))
	}
	if math.IsNaN(e.Low) {
		e.Low = otherNaN
	}
	return e
}

// P11.1: Same goes by all fields, at every place.
func TestSameOfEach(t *testing.T) {
	l := append(apart(), rightOnes()...)
	apartOnes := len(apart())
	var keys []string
	var anew []api.Expr
	for _, e := range l {
		keys, anew = append(keys, key(e)), append(anew, again(e))
	}
	for i, a := range l {
		for j := range l {
			wantSame(t, a, anew[j], keys[i] == keys[j])
			if i != j && max(i, j) < apartOnes && keys[i] == keys[j] {
				t.Fatalf("%s stands in the test twice", keys[i])
			}
		}
	}
}

// P11.1: Same of each field of one expression, also of those that have no meaning in its kind, alone and within others.
func TestSameOfOneField(t *testing.T) {
	for kind := -1; kind <= 5; kind++ {
		e := api.Expr{Kind: kind, Field: 3, Ranges: []api.Range{{Low: 1, High: 2}, {Low: 4, High: 5}}, Low: 1, High: 2, Of: []api.Expr{fn(1), fn(2)}}
		for i := range 9 {
			other := again(e)
			switch i {
			case 0:
				other.Kind++
			case 1:
				other.Field++
			case 2:
				other.Ranges[0].Low++
			case 3:
				other.Ranges[1].High++
			case 4:
				other.Ranges = other.Ranges[:1]
			case 5:
				other.Low++
			case 6:
				other.High++
			case 7:
				other.Of[1].Ranges[0].High++
			case 8:
				other.Of = other.Of[:1]
			}
			wantSame(t, e, other, false)
			wantSame(t, not(e), not(other), false)
			wantSame(t, and(fn(1), not(e)), and(fn(1), not(other)), false)
			wantSame(t, tall(e, 199), tall(other, 199), false)
		}
		wantSame(t, e, again(e), true)
		wantSame(t, tall(e, 199), tall(again(e), 199), true)
	}
}

// P11.1: floats are held against each other as layer 3 does: no numbers are the same, 0 and -0 aren't.
func TestSameOfFloats(t *testing.T) {
	l := []float64{0, minusNought, 1, -1, 0.5, infinite, -infinite, notOne, math.Nextafter(1, 2), most, math.SmallestNonzeroFloat64}
	for _, a := range l {
		for _, b := range l {
			want := floatKey(a) == floatKey(b)
			wantSame(t, floats(a, 0), floats(b, 0), want)
			wantSame(t, floats(0, a), floats(0, b), want)
			wantSame(t, floats(a, a), floats(b, b), want)
			wantSame(t, and(fn(1), floats(a, 0)), and(fn(1), floats(b, 0)), want)
			wantSame(t, api.Expr{Low: a}, api.Expr{Low: b}, want)
			wantSame(t, nested(floats(0, a), 199), nested(floats(0, b), 199), want)
		}
	}
	wantSame(t, floats(notOne, 1), floats(otherNaN, 1), true)
	wantSame(t, floats(1, otherNaN), floats(1, -notOne), true)
	wantSame(t, floats(1, 2), floats(2, 1), false)
}

// P11.1: Same of lists that hold nothing, be they nil or empty.
func TestSameOfEmptyLists(t *testing.T) {
	full := api.Expr{Ranges: []api.Range{}, Of: []api.Expr{}}
	wantSame(t, api.Expr{}, full, true)
	wantSame(t, not(api.Expr{}), not(full), true)
	for kind := range 6 {
		wantSame(t, made(kind), api.Expr{Kind: kind, Of: []api.Expr{}, Ranges: []api.Range{}}, true)
		wantSame(t, made(kind), made(kind, api.Expr{}), false)
	}
}

// P11.1: Atoms and Deep of each kind, whether it may be or not.
func TestSizeOfEach(t *testing.T) {
	a, b, c := fn(1), ranged(1), floats(notOne, 0.5)
	wantSize(t, api.Expr{}, 0, 0)
	for _, e := range []api.Expr{a, b, c, ranged(9, -1, -5), {Kind: 1}, {Kind: 1, Low: notOne}, made(1, a, b), made(1, not(not(a)))} {
		wantSize(t, e, 1, 0)
	}
	for _, kind := range []int{0, -1, 5, 6, least, greatest, 1<<32 + 1, 1<<32 + 2} {
		for _, e := range []api.Expr{made(kind), made(kind, a), made(kind, a, b), made(kind, not(a)), {Kind: kind, Field: 3, Ranges: a.Ranges}} {
			wantSize(t, e, 0, 0)
			wantSize(t, not(e), 0, 1)
			wantSize(t, and(a, e), 1, 1)
			wantSize(t, or(e, not(a)), 1, 2)
		}
	}
	for kind := 2; kind <= 4; kind++ {
		wantSize(t, made(kind), 0, 1)
		wantSize(t, made(kind, a), 1, 1)
		wantSize(t, made(kind, api.Expr{}), 0, 1)
		wantSize(t, made(kind, a, b), 2, 1)
		wantSize(t, made(kind, a, a, a), 3, 1)
		wantSize(t, made(kind, a, made(kind, b, c)), 3, 2)
		wantSize(t, made(kind, made(kind, b, c), a), 3, 2)
		wantSize(t, made(kind, made(kind, made(kind)), a), 1, 3)
		wantSize(t, made(kind, made(kind), made(kind, a), made(kind, made(kind, a, a)), made(kind, b)), 4, 3)
		wantSize(t, made(kind, made(1, not(a), not(b)), made(5, not(a))), 1, 1)
		odd := api.Expr{Kind: kind, Field: 7, Ranges: []api.Range{{}}, Low: 1, Of: []api.Expr{a, b}}
		wantSize(t, odd, 2, 1)
	}
}

// P11.1: Atoms and Deep of what is deep, or wide.
func TestSizeOfTheGreat(t *testing.T) {
	for _, n := range []int{1, 2, 16, 17, 199, 200} {
		wantSize(t, nested(fn(1), n), 1, n)
		wantSize(t, nested(api.Expr{}, n), 0, n)
		wantSize(t, nested(not(), n-1), 0, n)
		wantSize(t, tall(fn(1), n), n+1, n)
		wantSize(t, tall(made(5, fn(1)), n), n, n)
	}
	wide := or()
	for i := range 1000 {
		wide.Of = append(wide.Of, nested(and(fn(1), fn(2)), i%9))
	}
	wantSize(t, wide, 2000, 10)
}

// P11.1: the text of an atom of each field, of ranges of one number and of more.
func TestTextOfRanges(t *testing.T) {
	for i, word := range []string{"client", "unit", "func", "addr", "value"} {
		wantWhen(t, ranged(i+1, 0, 0), word+" 0")
		wantWhen(t, ranged(i+1, 7, 7), word+" 7")
		wantWhen(t, ranged(i+1, 0, 1), word+" 0-1")
		wantWhen(t, ranged(i+1, 3, 0), word+" 3-0")
		wantWhen(t, ranged(i+1, 0, most), word+" 0-9007199254740992")
		wantWhen(t, ranged(i+1, most, most), word+" 9007199254740992")
		wantWhen(t, ranged(i+1, most, most-1), word+" 9007199254740992-9007199254740991")
		wantWhen(t, ranged(i+1, 1, 1, 2, 2), word+" 1,2")
		wantWhen(t, ranged(i+1, 2, 2, 1, 1), word+" 2,1")
		wantWhen(t, ranged(i+1, 1, 2, 3, 3, 5, 9, 5, 9), word+" 1-2,3,5-9,5-9")
	}
}

// P11.1: the text of an atom of floats, with bounds of each kind.
func TestTextOfBounds(t *testing.T) {
	for low, x := range bounds() {
		for high, y := range bounds() {
			wantWhen(t, floats(x, y), "real "+low+" to "+high)
		}
	}
}

// P11.1: the text of each kind in each other one, with brackets where the chapter has them, at each place.
func TestTextOfKindsInKinds(t *testing.T) {
	a, b, c := fn(3), ranged(2, 1, 4, 9, 9), floats(-5, infinite)
	sa, sb, sc := "func 3", "unit 1-4,9", "real -5 to inf"
	sand, sor := sa+" and "+sb, sa+" or "+sb
	wantWhen(t, a, sa)
	wantWhen(t, b, sb)
	wantWhen(t, c, sc)
	wantWhen(t, not(c), "not "+sc)
	wantWhen(t, not(not(b)), "not not "+sb)
	wantWhen(t, nested(a, 5), "not not not not not "+sa)
	wantWhen(t, not(and(a, b)), "not ("+sand+")")
	wantWhen(t, not(or(a, b)), "not ("+sor+")")
	wantWhen(t, not(not(or(a, b))), "not not ("+sor+")")
	wantWhen(t, and(a, b), sand)
	wantWhen(t, and(a, b, c), sand+" and "+sc)
	wantWhen(t, and(not(a), c), "not "+sa+" and "+sc)
	wantWhen(t, and(c, not(a)), sc+" and not "+sa)
	wantWhen(t, and(and(a, b), c), "("+sand+") and "+sc)
	wantWhen(t, and(c, and(a, b)), sc+" and ("+sand+")")
	wantWhen(t, and(or(a, b), c), "("+sor+") and "+sc)
	wantWhen(t, and(c, or(a, b)), sc+" and ("+sor+")")
	wantWhen(t, and(c, or(a, b), c), sc+" and ("+sor+") and "+sc)
	wantWhen(t, and(or(a, b), and(a, b)), "("+sor+") and ("+sand+")")
	wantWhen(t, or(a, b), sor)
	wantWhen(t, or(a, b, c), sor+" or "+sc)
	wantWhen(t, or(not(a), c), "not "+sa+" or "+sc)
	wantWhen(t, or(c, not(a)), sc+" or not "+sa)
	wantWhen(t, or(and(a, b), c), sand+" or "+sc)
	wantWhen(t, or(c, and(a, b)), sc+" or "+sand)
	wantWhen(t, or(and(a, b), and(b, a)), sand+" or "+sb+" and "+sa)
	wantWhen(t, or(or(a, b), c), "("+sor+") or "+sc)
	wantWhen(t, or(c, or(a, b)), sc+" or ("+sor+")")
	wantWhen(t, or(c, or(a, b), c), sc+" or ("+sor+") or "+sc)
	wantWhen(t, and(c, not(or(a, b))), sc+" and not ("+sor+")")
	wantWhen(t, or(c, not(and(a, b))), sc+" or not ("+sand+")")
	wantWhen(t, or(and(or(a, b), c), b), "("+sor+") and "+sc+" or "+sb)
	wantWhen(t, not(and(or(not(and(a, b)), c), or(a, b))), "not ((not ("+sand+") or "+sc+") and ("+sor+"))")
	wantWhen(t, and(and(and(a, b), c), a), "(("+sand+") and "+sc+") and "+sa)
	wantWhen(t, and(not(or(fn(3), fn(4))), ranged(2, 17, 17)), "not (func 3 or func 4) and unit 17")
}

// P11.1: what is deep has its text too.
func TestTextOfTheDeep(t *testing.T) {
	wantWhen(t, nested(fn(1), 200), strings.Repeat("not ", 200)+"func 1")
	wantWhen(t, nested(or(fn(1), fn(2)), 199), strings.Repeat("not ", 199)+"(func 1 or func 2)")
	e, s := fn(1), "func 1"
	for i := range 200 {
		e = and(e, fn(7))
		if i > 0 {
			s = "(" + s + ")"
		}
		s += " and func 7"
	}
	wantWhen(t, e, s)
}

// P11.1: a rule's text: allow or deny, with and without a When, and a rate.
func TestTextOfRules(t *testing.T) {
	rate := api.Rate{Num: 5, Per: 7, Burst: 9}
	one, two := "allow;\n", "deny when func 3 or func 4 rate 5 per 7 burst 9;\n"
	first, second := api.Rule{Allow: true}, api.Rule{When: or(fn(3), fn(4)), Rate: rate}
	wantText(t, nil, "")
	wantText(t, []api.Rule{}, "")
	wantText(t, []api.Rule{{}}, "deny;\n")
	wantText(t, []api.Rule{first}, one)
	wantText(t, []api.Rule{second}, two)
	wantText(t, []api.Rule{first, second}, one+two)
	wantText(t, []api.Rule{second, first, second, second, first}, two+one+two+two+one)
	wantText(t, []api.Rule{{When: fn(3)}}, "deny when func 3;\n")
	wantText(t, []api.Rule{{Allow: true, When: fn(3)}}, "allow when func 3;\n")
	wantText(t, []api.Rule{{Allow: true, Rate: rate}}, "allow rate 5 per 7 burst 9;\n")
	wantText(t, []api.Rule{{Rate: rate}}, "deny rate 5 per 7 burst 9;\n")
	wantText(t, []api.Rule{{Allow: true, When: not(fn(3)), Rate: rate}}, "allow when not func 3 rate 5 per 7 burst 9;\n")
	wantText(t, []api.Rule{{Rate: api.Rate{Per: 1}}}, "deny rate 0 per 1 burst 0;\n")
	wantText(t, []api.Rule{{Rate: api.Rate{Num: most, Per: most, Burst: most}}}, "deny rate 9007199254740992 per 9007199254740992 burst 9007199254740992;\n")
	wantText(t, []api.Rule{{When: api.Expr{Ranges: []api.Range{}, Of: []api.Expr{}}}}, "deny;\n")
}

// P11.1: lines don't count, and no number of rules is too great here.
func TestTextOfManyRulesAndLines(t *testing.T) {
	for _, line := range []int{0, 1, -1, least, greatest} {
		wantText(t, []api.Rule{{Line: line}, {Allow: true, Line: line}}, "deny;\nallow;\n")
	}
	for _, n := range []int{64, 65, 5000} {
		wantText(t, make([]api.Rule, n), strings.Repeat("deny;\n", n))
	}
}

// wrongRates are such that a rule may not have.
func wrongRates() []api.Rate {
	l := []api.Rate{{Num: 1}, {Burst: 1}, {Num: 1, Burst: 1}, {Num: most, Burst: most}, {Num: -1}, {Burst: -1}, {Num: greatest}, {Burst: least}}
	for _, n := range wrongNumbers() {
		l = append(l, api.Rate{Num: n, Per: 1, Burst: 1}, api.Rate{Num: 1, Per: n, Burst: 1}, api.Rate{Num: 1, Per: 1, Burst: n}, api.Rate{Num: n, Per: n, Burst: n}, api.Rate{Per: n})
	}
	return l
}

// P11.1: one rule that may not be, at each place, leaves no text.
func TestTextRefuses(t *testing.T) {
	var wrong []api.Rule
	for _, e := range append(wrongOnes(), strange()...) {
		wrong = append(wrong, api.Rule{When: e}, api.Rule{Allow: true, When: and(fn(1), e), Rate: api.Rate{Num: 1, Per: 1, Burst: 1}})
	}
	for _, rate := range wrongRates() {
		wrong = append(wrong, api.Rule{Rate: rate}, api.Rule{Allow: true, Rate: rate}, api.Rule{Allow: true, When: fn(1), Rate: rate})
	}
	good := []api.Rule{{Allow: true}, {When: fn(3)}, {}, {Allow: true, Rate: api.Rate{Num: 1, Per: 2, Burst: 3}}}
	for _, r := range wrong {
		wantNoText(t, []api.Rule{r})
		for place := range len(good) + 1 {
			wantNoText(t, slices.Insert(slices.Clone(good), place, r))
		}
		wantNoText(t, []api.Rule{r, r})
	}
}

// P11.1: Rules of lists that differ in length, in one field of one rule, or in lines only.
func TestRulesOfEach(t *testing.T) {
	a := api.Rule{Allow: true, When: and(fn(1), not(floats(minusNought, infinite))), Rate: api.Rate{Num: 1, Per: 2, Burst: 3}, Line: 4}
	wantRules(t, nil, nil, true)
	wantRules(t, nil, []api.Rule{}, true)
	wantRules(t, nil, []api.Rule{{}}, false)
	wantRules(t, []api.Rule{a}, nil, false)
	for i := range 8 {
		other := a
		other.When = again(a.When)
		switch i {
		case 0:
			other.Allow = false
		case 1:
			other.When.Of[0].Ranges[0].Low++
		case 2:
			other.When.Of[1].Of[0].Low = 0
		case 3:
			other.When = api.Expr{}
		case 4:
			other.Rate.Num++
		case 5:
			other.Rate.Per++
		case 6:
			other.Rate.Burst++
		case 7:
			other.Rate = api.Rate{}
		}
		for _, l := range [][]api.Rule{{other}, {other, a}, {a, other}, {a, other, a}, {a, a, other}} {
			good := slices.Repeat([]api.Rule{a}, len(l))
			wantRules(t, l, good, false)
			wantRules(t, l, slices.Clone(l), true)
			wantRules(t, l, l[1:], false)
			wantRules(t, l, append(slices.Clone(l), a), false)
		}
		wantRules(t, []api.Rule{a, other}, []api.Rule{other, a}, false)
	}
	for _, line := range []int{0, 1, -1, 5, least, greatest} {
		other := a
		other.Line, other.When = line, again(a.When)
		wantRules(t, []api.Rule{a, a}, []api.Rule{other, a}, true)
		wantRules(t, []api.Rule{a, a}, []api.Rule{a, other}, true)
	}
}

// P11.1: Rules holds also what may not be against each other, floats as layer 3 does.
func TestRulesOfWhatMayNotBe(t *testing.T) {
	l := apart()
	for i, a := range l {
		for j, b := range l {
			wantRules(t, []api.Rule{{Line: i}, {When: a}}, []api.Rule{{Line: j}, {When: again(b)}}, i == j)
		}
	}
	for _, rate := range wrongRates() {
		wantRules(t, []api.Rule{{Rate: rate}}, []api.Rule{{Rate: rate}}, true)
		wantRules(t, []api.Rule{{Rate: rate}}, []api.Rule{{}}, false)
	}
}

// reader reads policies' texts, so that a text is held against what it was made of.
type reader struct{ words []string }

func newReader(s string) *reader {
	for _, mark := range []string{"(", ")", ",", ";"} {
		s = strings.ReplaceAll(s, mark, " "+mark+" ")
	}
	return &reader{strings.Fields(s)}
}

func (r *reader) next() string {
	w := r.words[0]
	r.words = r.words[1:]
	return w
}

// took takes the word, if it is the next one.
func (r *reader) took(w string) bool {
	if len(r.words) == 0 || r.words[0] != w {
		return false
	}
	r.next()
	return true
}

func (r *reader) number() int {
	n, _ := strconv.Atoi(r.next())
	return n
}

func (r *reader) bound() float64 {
	x, _ := strconv.ParseFloat(r.next(), 64)
	return x
}

func (r *reader) policy() []api.Rule {
	var l []api.Rule
	for len(r.words) > 0 {
		one := api.Rule{Allow: r.next() == "allow"}
		if r.took("when") {
			one.When = r.chain("or")
		}
		if r.took("rate") {
			one.Rate.Num = r.number()
			r.next()
			one.Rate.Per = r.number()
			r.next()
			one.Rate.Burst = r.number()
		}
		r.next()
		l = append(l, one)
	}
	return l
}

func (r *reader) chain(between string) api.Expr {
	one := func() api.Expr { return r.part() }
	kind := 3
	if between == "or" {
		one = func() api.Expr { return r.chain("and") }
		kind = 4
	}
	l := []api.Expr{one()}
	for r.took(between) {
		l = append(l, one())
	}
	if len(l) == 1 {
		return l[0]
	}
	return made(kind, l...)
}

func (r *reader) part() api.Expr {
	if r.took("not") {
		return not(r.part())
	}
	if r.took("(") {
		e := r.chain("or")
		r.next()
		return e
	}
	word := r.next()
	if word == "real" {
		low := r.bound()
		r.next()
		return floats(low, r.bound())
	}
	e := ranged(1 + slices.Index([]string{"client", "unit", "func", "addr", "value"}, word))
	for {
		low, high, two := strings.Cut(r.next(), "-")
		if !two {
			high = low
		}
		n, _ := strconv.Atoi(low)
		m, _ := strconv.Atoi(high)
		e.Ranges = append(e.Ranges, api.Range{Low: n, High: m})
		if !r.took(",") {
			return e
		}
	}
}

// small are expressions made of those of l, each in each kind.
func small(l []api.Expr) []api.Expr {
	made := slices.Clone(l)
	for _, a := range l {
		made = append(made, not(a))
		for _, b := range l {
			made = append(made, and(a, b), or(a, b))
			made = append(made, and(a, b, a), or(a, b, b))
		}
	}
	return made
}

// P11.2: of small expressions, and of policies of them, no two that are unlike have one text, and the same ones have one.
func TestUnlikePoliciesHaveUnlikeTexts(t *testing.T) {
	texts := map[string]string{}
	hold := func(l []api.Rule) {
		s, ok := Text(l)
		if !ok {
			t.Fatalf("no text of %s", policyKey(l))
		}
		if other, known := texts[s]; known && other != policyKey(l) {
			t.Fatalf("%q is the text of %s and of %s", s, other, policyKey(l))
		}
		texts[s] = policyKey(l)
		if back := newReader(s).policy(); policyKey(back) != policyKey(l) || !Rules(back, l) {
			t.Fatalf("%q, the text of %s, tells %s", s, policyKey(l), policyKey(back))
		}
	}
	for _, e := range small(small([]api.Expr{fn(1), floats(0, 1)})) {
		hold([]api.Rule{{When: e}})
	}
	atoms := []api.Expr{
		{}, fn(1), fn(2), fn(12), ranged(2, 1, 1), ranged(3, 1, 2), ranged(3, 2, 1), ranged(3, 1, 1, 2, 2), ranged(3, 12, 12), ranged(3, 1, 1, 2, 12), ranged(3, 1, 12, 2, 2),
		ranged(3, 1, 1, 1, 1), floats(0, 0), floats(minusNought, 0), floats(0, minusNought), floats(minusNought, minusNought), floats(-1, 1), floats(1, -1),
		floats(-infinite, 0), floats(infinite, 0), floats(0, infinite), floats(most, 0), floats(most-1, 0),
	}
	rates := []api.Rate{{}, {Per: 1}, {Per: 12}, {Num: 1, Per: 1}, {Num: 1, Per: 2, Burst: 3}, {Num: 2, Per: 1, Burst: 3}, {Num: 3, Per: 2, Burst: 1}, {Per: 1, Burst: 1}}
	hold(nil)
	var rules []api.Rule
	for _, e := range atoms {
		for _, rate := range rates {
			rules = append(rules, api.Rule{When: e, Rate: rate}, api.Rule{Allow: true, When: e, Rate: rate})
		}
	}
	for i, a := range rules {
		hold([]api.Rule{a})
		for j, b := range rules {
			if (i+j)%5 == 0 {
				hold([]api.Rule{a, b})
			}
		}
	}
}

// randomExpr makes an expression that may be.
func randomExpr(r *rand.Rand, deep int) api.Expr {
	switch kind := r.Intn(5); {
	case deep > 0 && kind == 2:
		return not(randomExpr(r, deep-1))
	case deep > 0 && kind > 2:
		e := made(kind)
		for range 2 + r.Intn(3) {
			e.Of = append(e.Of, randomExpr(r, deep-1))
		}
		return e
	}
	if r.Intn(4) == 0 {
		some := []float64{0, minusNought, infinite, -infinite, most, -most, float64(r.Intn(100)), float64(-r.Intn(100))}
		return floats(some[r.Intn(len(some))], some[r.Intn(len(some))])
	}
	e := ranged(1 + r.Intn(5))
	for range 1 + r.Intn(3) {
		low := r.Intn(300)
		e.Ranges = append(e.Ranges, api.Range{Low: low, High: low + r.Intn(3)})
	}
	return e
}

// count tells atoms and depth in another way: by the brackets of a key.
func count(e api.Expr) (atoms, deep int) {
	level := 0
	for _, c := range key(e) {
		switch c {
		case '{':
			level++
			deep = max(deep, level)
		case '}':
			level--
		}
	}
	return strings.Count(key(e), "{1 "), deep - 1
}

// P11.1, P11.2: expressions by chance are right, as large as their keys say, and told whole by their texts.
func TestExpressionsByChance(t *testing.T) {
	r := rand.New(rand.NewSource(11))
	for range 3000 {
		var l []api.Rule
		for range r.Intn(4) {
			one := api.Rule{Allow: r.Intn(2) == 0, Line: r.Intn(9)}
			if r.Intn(5) > 0 {
				one.When = randomExpr(r, r.Intn(6))
			}
			if r.Intn(3) == 0 {
				one.Rate = api.Rate{Num: r.Intn(3), Per: 1 + r.Intn(3), Burst: r.Intn(3)}
			}
			wantRight(t, one.When, true)
			atoms, deep := count(one.When)
			wantSize(t, one.When, atoms, deep)
			l = append(l, one)
		}
		s, ok := Text(l)
		back := newReader(s).policy()
		if !ok || policyKey(back) != policyKey(l) {
			t.Fatalf("%q, %v, the text of %s, tells %s", s, ok, policyKey(l), policyKey(back))
		}
		wantRules(t, l, back, true)
		wantText(t, back, s)
	}
}

// roomy makes an expression anew, with spare room behind each list, and answers all of its lists whole.
func roomy(e api.Expr, ranges *[][]api.Range, ofs *[][]api.Expr) api.Expr {
	room := append(slices.Clone(e.Ranges), api.Range{Low: 7, High: 5}, api.Range{Low: 3, High: 9})
	of := make([]api.Expr, 0, len(e.Of)+2)
	for _, part := range e.Of {
		of = append(of, roomy(part, ranges, ofs))
	}
	of = append(of, fn(70), or(fn(60), fn(50)))
	*ranges, *ofs = append(*ranges, room), append(*ofs, of)
	e.Ranges, e.Of = room[:len(e.Ranges)], of[:len(e.Of)]
	return e
}

// Rule 5: what is handed in stays, its spare room too, whether it may be or not.
func TestNothingHandedInIsChanged(t *testing.T) {
	all := append(append(rightOnes(), wrongOnes()...), apart()...)
	for _, e := range all {
		var ranges [][]api.Range
		var ofs [][]api.Expr
		e = roomy(e, &ranges, &ofs)
		tell := func() string { return fmt.Sprint(key(e), ranges, len(ofs)) + key(made(9, slices.Concat(ofs...)...)) }
		before := tell()
		rules := append([]api.Rule{{When: e, Line: 5}, {Allow: true, When: e}}, api.Rule{Line: 9})
		Right(e)
		Same(e, e)
		Atoms(e)
		Deep(e)
		Text(rules[:2])
		Rules(rules[:2], rules[1:])
		if tell() != before {
			t.Fatalf("%s became %s", before, tell())
		}
		if rules[0].Line != 5 || rules[0].Allow || rules[2].Line != 9 || rules[2].Allow || !rules[1].Allow {
			t.Fatalf("the rules of %s became %s", before, policyKey(rules))
		}
	}
}

// Rule 6: a call hangs on its arguments alone: nothing of the ones ahead is left in an answer.
func TestNothingIsKept(t *testing.T) {
	l := []api.Rule{{Allow: true, When: or(fn(3), fn(4))}}
	for range 3 {
		wantNoText(t, []api.Rule{l[0], {When: not()}})
		wantText(t, l, "allow when func 3 or func 4;\n")
		wantText(t, nil, "")
		wantSize(t, l[0].When, 2, 1)
		wantRight(t, l[0].When, true)
	}
	l[0].When.Of[0] = fn(5)
	wantText(t, l, "allow when func 5 or func 4;\n")
}
