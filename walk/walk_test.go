package walk

import (
	"fmt"
	"math"
	"math/rand"
	"slices"
	"strings"
	"testing"

	"gatewarden/api"
	"gatewarden/ask"
	"gatewarden/check"
	"gatewarden/compile"
	"gatewarden/facts"
	"gatewarden/mean"
	"gatewarden/tree"
)

const (
	least    = math.MinInt
	greatest = math.MaxInt
)

var (
	minusNought = math.Copysign(0, -1)
	infinite    = math.Inf(1)
	notOne      = math.NaN()
)

// of makes ranges of ends that stand by twos.
func of(ends ...int) []api.Range {
	var l []api.Range
	for i := 0; i+1 < len(ends); i += 2 {
		l = append(l, api.Range{Low: ends[i], High: ends[i+1]})
	}
	return l
}

// ranged makes an atom of a field and ranges whose ends stand by twos.
func ranged(field int, ends ...int) api.Expr {
	return api.Expr{Kind: 1, Field: field, Ranges: of(ends...)}
}

func fn(n int) api.Expr { return ranged(3, n, n) }

func floats(low, high float64) api.Expr {
	return api.Expr{Kind: 1, Field: 6, Low: low, High: high}
}

func made(kind int, l ...api.Expr) api.Expr { return api.Expr{Kind: kind, Of: l} }

func not(e api.Expr) api.Expr    { return made(2, e) }
func and(l ...api.Expr) api.Expr { return made(3, l...) }
func or(l ...api.Expr) api.Expr  { return made(4, l...) }

// nested answers e within so many nots.
func nested(e api.Expr, times int) api.Expr {
	for range times {
		e = not(e)
	}
	return e
}

func leaf(rule int) api.Node { return api.Node{Leaf: true, Rule: rule} }

func test(atom api.Expr, yes, no int) api.Node { return api.Node{Atom: atom, Yes: yes, No: no} }

func nodes(l ...api.Node) []api.Node { return l }

// when makes rules of what they hold for.
func when(l ...api.Expr) []api.Rule {
	var rules []api.Rule
	for _, e := range l {
		rules = append(rules, api.Rule{When: e})
	}
	return rules
}

// regs are the numbers of floats, four of each: by division, so that they share nothing with layer 3's shifts.
func regs(l ...float64) []int {
	var numbers []int
	for _, x := range l {
		bits := math.Float64bits(x)
		for _, worth := range []uint64{1 << 48, 1 << 32, 1 << 16, 1} {
			numbers = append(numbers, int(bits/worth%65536))
		}
	}
	return numbers
}

// asks are facts of a function, with something in each other field that fn's atoms don't ask for.
func asks(function int) api.Facts {
	return api.Facts{Client: 1, Unit: 17, Func: function, Spans: of(3, 6), Values: []int{7, 8}, Regs: regs(1)}
}

// wantWalk holds what is told of a tree in order against the rule and how many tests there must be.
// The first wrong answer ends a test: the loops over many trees would tell thousands of them.
func wantWalk(t *testing.T, l []api.Node, f api.Facts, rule, tests int) {
	t.Helper()
	if !compile.Right(l) {
		t.Fatalf("%+v isn't in order: the test is wrong", l)
	}
	if got, count := Rule(l, f), Tests(l, f); got != rule || count != tests {
		t.Fatalf("of %+v and %+v: rule %d, tests %d; want %d, %d", l, f, got, count, rule, tests)
	}
}

// P17.1: a tree of one leaf: its rule, whatever it is, and no test.
func TestOneLeaf(t *testing.T) {
	for _, rule := range []int{-1, 0, 1, 7, 63, 64, 1 << 32, greatest} {
		for _, f := range []api.Facts{{}, asks(3), asks(-1), {Client: least, Unit: greatest, Func: least, Regs: []int{7}}} {
			wantWalk(t, nodes(leaf(rule)), f, rule, 0)
			// What stands ahead of the last node, and isn't gone on at, doesn't count.
			wantWalk(t, nodes(leaf(5), leaf(rule)), f, rule, 0)
			wantWalk(t, nodes(leaf(-1), leaf(0), test(fn(3), 1, 0), leaf(rule)), f, rule, 0)
		}
	}
	bare := leaf(4)
	bare.Atom.Ranges, bare.Atom.Of = []api.Range{}, []api.Expr{}
	wantWalk(t, nodes(bare), asks(3), 4, 0)
}

// P17.1: a test goes on at its Yes, if its atom holds, else at its No.
func TestOneTest(t *testing.T) {
	for _, rules := range [][2]int{{0, -1}, {-1, 0}, {1, 2}, {2, 1}, {greatest, 63}} {
		yes, no := rules[0], rules[1]
		for function := range 12 {
			want := no
			if function == 5 {
				want = yes
			}
			f := asks(function)
			wantWalk(t, nodes(leaf(no), leaf(yes), test(fn(5), 1, 0)), f, want, 1)
			wantWalk(t, nodes(leaf(yes), leaf(no), test(fn(5), 0, 1)), f, want, 1)
			wantWalk(t, nodes(leaf(9), leaf(yes), leaf(8), leaf(no), leaf(7), test(fn(5), 1, 3)), f, want, 1)
		}
	}
}

// P17.1: where Yes and No are the same node, it goes on there either way, and the test counts.
func TestSameNode(t *testing.T) {
	for _, function := range []int{4, 5} {
		f := asks(function)
		wantWalk(t, nodes(leaf(7), test(fn(5), 0, 0)), f, 7, 1)
		wantWalk(t, nodes(leaf(7), leaf(8), test(fn(5), 0, 0)), f, 7, 1)
		wantWalk(t, nodes(leaf(7), leaf(8), test(fn(5), 1, 1)), f, 8, 1)
		wantWalk(t, nodes(leaf(7), test(fn(5), 0, 0), test(fn(5), 1, 1), test(fn(4), 2, 2)), f, 7, 3)
		rule := map[int]int{4: 7, 5: 8}[function]
		wantWalk(t, nodes(leaf(7), leaf(8), test(fn(5), 1, 0), test(fn(5), 2, 2)), f, rule, 2)
	}
}

// P17.1: nodes that are never reached don't count, whatever stands in them.
func TestNodesThatAreNeverReached(t *testing.T) {
	l := nodes(
		leaf(10), leaf(11),
		test(fn(5), 0, 0), // never
		leaf(12),
		test(fn(5), 3, 1),
		leaf(13),          // never
		test(fn(5), 2, 5), // never
		test(fn(6), 0, 4),
		test(fn(9), 6, 6), // never: all goes by
		test(fn(5), 7, 7),
	)
	wantWalk(t, l, asks(5), 12, 3)
	wantWalk(t, l, asks(6), 10, 2)
	wantWalk(t, l, asks(9), 11, 3)
	for _, place := range []int{2, 5, 6, 8} {
		for _, n := range []api.Node{leaf(-1), leaf(99), test(fn(5), 0, 1), test(floats(-infinite, infinite), 1, 0)} {
			other := slices.Clone(l)
			other[place] = n
			wantWalk(t, other, asks(5), 12, 3)
			wantWalk(t, other, asks(6), 10, 2)
			wantWalk(t, other, asks(9), 11, 3)
		}
	}
}

// P17.1: one begins at the last node: each tree's beginning is a tree of its own, and tells another rule.
func TestBeginsAtTheLastNode(t *testing.T) {
	l := nodes(leaf(-1), leaf(4), test(fn(3), 1, 0), leaf(2), test(fn(4), 3, 2), test(fn(3), 4, 3), leaf(0), test(fn(5), 6, 5))
	want := map[int][][2]int{ // by the function: rule and tests, of one node, of two, and so on
		3: {{-1, 0}, {4, 0}, {4, 1}, {2, 0}, {4, 2}, {4, 3}, {0, 0}, {4, 4}},
		4: {{-1, 0}, {4, 0}, {-1, 1}, {2, 0}, {2, 1}, {2, 1}, {0, 0}, {2, 2}},
		5: {{-1, 0}, {4, 0}, {-1, 1}, {2, 0}, {-1, 2}, {2, 1}, {0, 0}, {0, 1}},
	}
	for function, rows := range want {
		for i, row := range rows {
			wantWalk(t, l[:i+1], asks(function), row[0], row[1])
		}
	}
}

// P17.1: the chapter's example, and that of the chapter ahead.
func TestExample(t *testing.T) {
	l := nodes(leaf(-1), leaf(1), leaf(0), test(fn(5), 2, 1))
	for _, of := range [][]api.Node{l, compile.Rules([]api.Rule{{When: fn(5)}, {Allow: true}})} {
		for function := range 128 {
			rule := 1
			if function == 5 {
				rule = 0
			}
			wantWalk(t, of, asks(function), rule, 1)
		}
	}
}

// P17.1: an atom of each field, and of ranges that layer 16 would have put in order.
func TestAtomsOfEachField(t *testing.T) {
	f := api.Facts{Client: 1, Unit: 17, Func: 16, Spans: of(3, 6, 9, 9), Values: []int{7, 8}, Regs: regs(1, -2.5)}
	for _, one := range []struct {
		atom api.Expr
		want bool
	}{
		{ranged(1, 1, 1), true}, {ranged(1, 2, 20), false}, {ranged(1, 5, 6, 0, 1), true},
		{ranged(2, 17, 17), true}, {ranged(2, 16, 16), false}, {ranged(2, 18, 20, 1, 16), false},
		{ranged(3, 16, 16), true}, {ranged(3, 17, 17), false}, {ranged(3, 20, 2, 16, 15), false},
		{ranged(4, 3, 9), true}, {ranged(4, 9, 9, 5, 6, 3, 4), true}, {ranged(4, 3, 8), false}, {ranged(4, 9, 9, 6, 6, 3, 4), false},
		{ranged(5, 7, 8), true}, {ranged(5, 8, 8, 7, 7), true}, {ranged(5, 8, 8), false}, {ranged(5, 3, 7), false},
		{floats(-3, 1), true}, {floats(-infinite, infinite), true}, {floats(-2, 1), false}, {floats(-3, 0), false}, {floats(1, -3), false},
	} {
		rule := map[bool]int{true: 8, false: 9}[one.want]
		wantWalk(t, nodes(leaf(9), leaf(8), test(one.atom, 1, 0)), f, rule, 1)
		wantWalk(t, nodes(leaf(8), leaf(9), test(one.atom, 0, 1)), f, rule, 1)
		empty := one.atom
		empty.Of = []api.Expr{}
		wantWalk(t, nodes(leaf(9), leaf(8), test(empty, 1, 0)), f, rule, 1)
	}
}

// letter is an atom of a field, and how facts are told for which it holds, or doesn't.
func letter(field int) (api.Expr, func(f *api.Facts, holds bool)) {
	number := map[bool]int{true: 4, false: 2}
	atom := ranged(field, 3, 5, 1, 1)
	switch field {
	case 1:
		return atom, func(f *api.Facts, holds bool) { f.Client = number[holds] }
	case 2:
		return atom, func(f *api.Facts, holds bool) { f.Unit = number[holds] }
	case 3:
		return atom, func(f *api.Facts, holds bool) { f.Func = number[holds] }
	case 4:
		last := map[bool]int{true: 1, false: 2}
		return atom, func(f *api.Facts, holds bool) { f.Spans = of(3, 5, 1, last[holds]) }
	case 5:
		return atom, func(f *api.Facts, holds bool) { f.Values = []int{1, number[holds]} }
	}
	last := map[bool]float64{true: 1, false: 1.5}
	return floats(-1, 1), func(f *api.Facts, holds bool) { f.Regs = regs(0.5, last[holds]) }
}

// way is what a tree tells, where the letters a to d hold as its word says: 1 it holds, 0 it doesn't, - either.
type way struct {
	word        string
	rule, tests int
}

// matches answers whether the letters that hold, a as the lowest bit, are as the word says.
func matches(word string, letters int) bool {
	for i, mark := range word {
		if holds := letters>>i&1 == 1; mark == '1' && !holds || mark == '0' && holds {
			return false
		}
	}
	return true
}

// wantWays holds all sixteen cases of four letters against the ways, whatever the fields of the letters are.
func wantWays(t *testing.T, make func(a, b, c, d api.Expr) []api.Rule, ways ...way) {
	t.Helper()
	for _, fields := range [][4]int{{1, 2, 3, 4}, {5, 6, 1, 2}, {3, 4, 5, 6}, {6, 5, 4, 3}, {2, 1, 6, 5}, {4, 3, 2, 1}} {
		var atoms [4]api.Expr
		var tell [4]func(*api.Facts, bool)
		for i, field := range fields {
			atoms[i], tell[i] = letter(field)
		}
		rules := make(atoms[0], atoms[1], atoms[2], atoms[3])
		l := compile.Rules(rules)
		for letters := range 16 {
			var f api.Facts
			for i := range 4 {
				tell[i](&f, letters>>i&1 == 1)
			}
			found := 0
			for _, one := range ways {
				if matches(one.word, letters) {
					found++
					wantWalk(t, l, f, one.rule, one.tests)
					if first := mean.First(rules, f); first != one.rule {
						t.Fatalf("layer 15 tells %d of %+v and %+v; want %d", first, rules, f, one.rule)
					}
				}
			}
			if found != 1 {
				t.Fatalf("%d ways for %04b: the test is wrong", found, letters)
			}
		}
	}
}

// P17.1, P17.2: rules of one expression: which tests there are on each way, reckoned by hand.
func TestWaysOfExpressions(t *testing.T) {
	type expr = api.Expr
	for _, one := range []struct {
		make func(a, b, c, d expr) expr
		ways []way
	}{
		{func(a, b, c, d expr) expr { return expr{} }, []way{{"----", 0, 0}}},
		{func(a, b, c, d expr) expr { return a }, []way{{"1---", 0, 1}, {"0---", -1, 1}}},
		{func(a, b, c, d expr) expr { return d }, []way{{"---1", 0, 1}, {"---0", -1, 1}}},
		{func(a, b, c, d expr) expr { return not(a) }, []way{{"1---", -1, 1}, {"0---", 0, 1}}},
		{func(a, b, c, d expr) expr { return not(not(a)) }, []way{{"1---", 0, 1}, {"0---", -1, 1}}},
		{func(a, b, c, d expr) expr { return and(a, b) }, []way{{"0---", -1, 1}, {"10--", -1, 2}, {"11--", 0, 2}}},
		{func(a, b, c, d expr) expr { return and(b, a) }, []way{{"-0--", -1, 1}, {"01--", -1, 2}, {"11--", 0, 2}}},
		{func(a, b, c, d expr) expr { return or(a, b) }, []way{{"1---", 0, 1}, {"01--", 0, 2}, {"00--", -1, 2}}},
		{func(a, b, c, d expr) expr { return or(b, a) }, []way{{"-1--", 0, 1}, {"10--", 0, 2}, {"00--", -1, 2}}},
		{func(a, b, c, d expr) expr { return and(a, a) }, []way{{"1---", 0, 2}, {"0---", -1, 1}}},
		{func(a, b, c, d expr) expr { return or(a, a) }, []way{{"1---", 0, 1}, {"0---", -1, 2}}},
		{func(a, b, c, d expr) expr { return and(a, not(a)) }, []way{{"1---", -1, 2}, {"0---", -1, 1}}},
		{func(a, b, c, d expr) expr { return or(a, not(a)) }, []way{{"1---", 0, 1}, {"0---", 0, 2}}},
		{func(a, b, c, d expr) expr { return not(and(a, b)) }, []way{{"0---", 0, 1}, {"10--", 0, 2}, {"11--", -1, 2}}},
		{func(a, b, c, d expr) expr { return not(or(a, b)) }, []way{{"1---", -1, 1}, {"01--", -1, 2}, {"00--", 0, 2}}},
		{func(a, b, c, d expr) expr { return and(not(a), b) }, []way{{"1---", -1, 1}, {"00--", -1, 2}, {"01--", 0, 2}}},
		{func(a, b, c, d expr) expr { return or(not(a), b) }, []way{{"0---", 0, 1}, {"11--", 0, 2}, {"10--", -1, 2}}},
		{func(a, b, c, d expr) expr { return and(a, b, c) }, []way{{"0---", -1, 1}, {"10--", -1, 2}, {"110-", -1, 3}, {"111-", 0, 3}}},
		{func(a, b, c, d expr) expr { return or(a, b, c) }, []way{{"1---", 0, 1}, {"01--", 0, 2}, {"001-", 0, 3}, {"000-", -1, 3}}},
		{func(a, b, c, d expr) expr { return and(a, or(b, c)) }, []way{{"0---", -1, 1}, {"11--", 0, 2}, {"101-", 0, 3}, {"100-", -1, 3}}},
		{func(a, b, c, d expr) expr { return or(and(a, b), c) }, []way{{"11--", 0, 2}, {"101-", 0, 3}, {"100-", -1, 3}, {"0-1-", 0, 2}, {"0-0-", -1, 2}}},
		{func(a, b, c, d expr) expr { return and(a, not(or(b, c))) }, []way{{"0---", -1, 1}, {"11--", -1, 2}, {"101-", -1, 3}, {"100-", 0, 3}}},
		{func(a, b, c, d expr) expr { return and(a, b, c, d) }, []way{{"0---", -1, 1}, {"10--", -1, 2}, {"110-", -1, 3}, {"1110", -1, 4}, {"1111", 0, 4}}},
		{func(a, b, c, d expr) expr { return and(or(a, b), or(c, d)) }, []way{{"1-1-", 0, 2}, {"1-01", 0, 3}, {"1-00", -1, 3}, {"011-", 0, 3}, {"0101", 0, 4}, {"0100", -1, 4}, {"00--", -1, 2}}},
		{func(a, b, c, d expr) expr { return or(and(a, b), and(c, d)) }, []way{{"11--", 0, 2}, {"1011", 0, 4}, {"1010", -1, 4}, {"100-", -1, 3}, {"0-0-", -1, 2}, {"0-10", -1, 3}, {"0-11", 0, 3}}},
		{func(a, b, c, d expr) expr { return not(or(and(a, b), and(c, d))) }, []way{{"11--", -1, 2}, {"1011", -1, 4}, {"1010", 0, 4}, {"100-", 0, 3}, {"0-0-", 0, 2}, {"0-10", 0, 3}, {"0-11", -1, 3}}},
	} {
		wantWays(t, func(a, b, c, d expr) []api.Rule { return when(one.make(a, b, c, d)) }, one.ways...)
	}
}

// P17.1, P17.2: no rule, rules that always hold, and several: the first that holds, and the tests up to it.
func TestWaysOfRules(t *testing.T) {
	type expr = api.Expr
	all := expr{}
	for _, one := range []struct {
		make func(a, b, c, d expr) []api.Rule
		ways []way
	}{
		{func(a, b, c, d expr) []api.Rule { return nil }, []way{{"----", -1, 0}}},
		{func(a, b, c, d expr) []api.Rule { return []api.Rule{} }, []way{{"----", -1, 0}}},
		{func(a, b, c, d expr) []api.Rule { return when(all, all) }, []way{{"----", 0, 0}}},
		{func(a, b, c, d expr) []api.Rule { return when(all, a) }, []way{{"----", 0, 0}}},
		{func(a, b, c, d expr) []api.Rule { return when(a, all) }, []way{{"1---", 0, 1}, {"0---", 1, 1}}},
		{func(a, b, c, d expr) []api.Rule { return when(a, b) }, []way{{"1---", 0, 1}, {"01--", 1, 2}, {"00--", -1, 2}}},
		{func(a, b, c, d expr) []api.Rule { return when(a, a) }, []way{{"1---", 0, 1}, {"0---", -1, 2}}},
		{func(a, b, c, d expr) []api.Rule { return when(a, not(a)) }, []way{{"1---", 0, 1}, {"0---", 1, 2}}},
		{func(a, b, c, d expr) []api.Rule { return when(a, all, b, c) }, []way{{"1---", 0, 1}, {"0---", 1, 1}}},
		{func(a, b, c, d expr) []api.Rule { return when(a, b, all, c) }, []way{{"1---", 0, 1}, {"01--", 1, 2}, {"00--", 2, 2}}},
		{func(a, b, c, d expr) []api.Rule { return when(a, b, c, d) }, []way{{"1---", 0, 1}, {"01--", 1, 2}, {"001-", 2, 3}, {"0001", 3, 4}, {"0000", -1, 4}}},
		{func(a, b, c, d expr) []api.Rule { return when(and(a, b), not(c), or(a, d)) }, []way{
			{"11--", 0, 2}, {"100-", 1, 3}, {"101-", 2, 4}, {"0-0-", 1, 2}, {"0-11", 2, 4}, {"0-10", -1, 4}}},
		{func(a, b, c, d expr) []api.Rule { return when(or(a, b), and(c, d), all) }, []way{
			{"1---", 0, 1}, {"01--", 0, 2}, {"0011", 1, 4}, {"0010", 2, 4}, {"000-", 2, 3}}},
		{func(a, b, c, d expr) []api.Rule { return when(not(and(a, b)), not(or(c, d))) }, []way{
			{"0---", 0, 1}, {"10--", 0, 2}, {"111-", -1, 3}, {"1101", -1, 4}, {"1100", 1, 4}}},
	} {
		wantWays(t, one.make, one.ways...)
	}
}

// P17.1: from a policy's text and a request's bytes on.
func TestOfTexts(t *testing.T) {
	const (
		read  = "\x03\x00\x08\x00\x03" // the addresses 8 to 10
		one   = "\x06\x00\x01\x00\x05"
		both  = "\x17\x00\x03\x00\x02\x00\x0a\x00\x01\x02\x00\x05" // reads 3 to 4, writes 10
		warm  = "\x10\x00\x00\x00\x04\x08\x40\x34\x00\x00\x00\x00\x00\x00"
		coils = "\x0f\x00\x03\x00\x04\x01\x0d"
	)
	for _, row := range []struct {
		policy, pdu string
		rule, tests int
	}{
		{"", read, -1, 0},
		{"allow;", read, 0, 0},
		{"deny when func 6; allow;", one, 0, 1},
		{"deny when func 6; allow;", read, 1, 1},
		{"allow when addr 0-9;", read, -1, 1},
		{"allow when addr 3,4,10;", both, 0, 1},
		{"deny when not real -5 to 5; allow;", warm, 0, 1},
		{"deny when not real -5 to 20; allow;", warm, 1, 1},
		{"deny when not real -inf to inf; allow;", one, 0, 1},
		{"deny when value 0-1; allow;", coils, 0, 1},
		{"deny when value 1; allow when func 15 and addr 3-6;", coils, 1, 3},
		{"allow when unit 17 and (func 3 or func 16) and not client 2;", read, 0, 3},
		{"allow when unit 17 and (func 3 or func 16) and not client 2;", warm, 0, 4},
		{"allow when unit 17 and (func 3 or func 16) and not client 2;", one, -1, 3},
		{"allow when client 5 or func 3 and addr 0-10;", read, 0, 3},
		{"deny when client 0; deny when unit 1; allow when func 23 rate 1 per 2 burst 1; allow;", both, 2, 3},
	} {
		rules, _, e := check.Policy(row.policy)
		if e != api.OK {
			t.Fatalf("%q may not be used: the test is wrong", row.policy)
		}
		a, e := ask.Get(row.pdu)
		if e != api.OK {
			t.Fatalf("%q is no request: the test is wrong", row.pdu)
		}
		wantWalk(t, compile.Rules(rules), facts.Of(1, 17, a), row.rule, row.tests)
	}
}

// someAtom makes an atom of few numbers, so that it holds for some of someFacts.
func someAtom(r *rand.Rand) api.Expr {
	field := 1 + r.Intn(6)
	if field == 6 {
		some := []float64{-infinite, -2, -1, minusNought, 0, 1, 2, infinite}
		return floats(some[r.Intn(len(some))], some[r.Intn(len(some))])
	}
	e := ranged(field)
	for range 1 + r.Intn(3) {
		low := r.Intn(8)
		e.Ranges = append(e.Ranges, api.Range{Low: low, High: low + r.Intn(4)})
	}
	return e
}

func someExpr(r *rand.Rand, deep int) api.Expr {
	kind := r.Intn(5)
	if deep == 0 || kind == 1 {
		return someAtom(r)
	}
	if kind == 0 {
		return api.Expr{}
	}
	size := 1
	if kind > 2 {
		size = 2 + r.Intn(3)
	}
	e := made(kind)
	for range size {
		e.Of = append(e.Of, someExpr(r, deep-1))
	}
	// All that always holds stands alone: an and, an or, a not may not be of it.
	for i, part := range e.Of {
		if part.Kind == 0 {
			e.Of[i] = someAtom(r)
		}
	}
	return e
}

func someFacts(r *rand.Rand) api.Facts {
	f := api.Facts{Client: r.Intn(9), Unit: r.Intn(9), Func: r.Intn(9)}
	for range r.Intn(3) {
		low := r.Intn(8)
		f.Spans = append(f.Spans, api.Range{Low: low, High: low + r.Intn(4)})
	}
	for range r.Intn(4) {
		f.Values = append(f.Values, r.Intn(9))
	}
	some := []float64{-infinite, -2, -1.5, -1, minusNought, 0, 0.5, 1, 2, infinite, notOne}
	for range r.Intn(3) {
		f.Regs = append(f.Regs, regs(some[r.Intn(len(some))])...)
	}
	if r.Intn(8) == 0 {
		f.Regs = append(f.Regs, 7)
	}
	return f
}

// someTree makes a tree in order of the size, such as layer 16 mostly wouldn't make: nodes of any order, tests that go on anywhere ahead.
func someTree(r *rand.Rand, size int) []api.Node {
	var l []api.Node
	for place := range size {
		if place == 0 || r.Intn(3) == 0 {
			l = append(l, leaf(place-1))
			continue
		}
		// Near ones more often: the ways shall be long.
		l = append(l, test(someAtom(r), place-1-r.Intn(min(place, 4)), r.Intn(place)))
	}
	return l
}

// told reckons from the first node to the last one what a walk from each of them tells: another way than the walk's.
func told(l []api.Node, f api.Facts) (rule, tests int) {
	type found struct{ rule, tests int }
	at := make([]found, len(l))
	for place, n := range l {
		if n.Leaf {
			at[place] = found{n.Rule, 0}
			continue
		}
		from := at[n.No]
		if mean.Holds(n.Atom, f) {
			from = at[n.Yes]
		}
		at[place] = found{from.rule, from.tests + 1}
	}
	last := at[len(l)-1]
	return last.rule, last.tests
}

// P17.1: trees in order by chance, which layer 16 didn't make.
func TestManyTrees(t *testing.T) {
	r := rand.New(rand.NewSource(17))
	lengths := map[int]int{}
	for range 6000 {
		l := someTree(r, 1+r.Intn(40))
		for range 5 {
			f := someFacts(r)
			rule, tests := told(l, f)
			wantWalk(t, l, f, rule, tests)
			lengths[tests]++
		}
	}
	for tests := range 8 {
		if lengths[tests] < 50 {
			t.Fatalf("%v: the test is wrong", lengths)
		}
	}
}

// P17.2: the tree of rules tells the first rule, for any facts: rules by chance.
func TestTellsTheFirstRule(t *testing.T) {
	r := rand.New(rand.NewSource(172))
	places := map[int]int{}
	for range 6000 {
		var rules []api.Rule
		atoms := 0
		for range r.Intn(9) {
			rules = append(rules, api.Rule{When: someExpr(r, r.Intn(5)), Allow: r.Intn(2) == 0})
			atoms += tree.Atoms(rules[len(rules)-1].When)
		}
		l := compile.Rules(rules)
		for range 5 {
			f := someFacts(r)
			first := mean.First(rules, f)
			_, tests := told(l, f)
			wantWalk(t, l, f, first, tests)
			if tests > atoms {
				t.Fatalf("%d tests of %d atoms in %+v", tests, atoms, rules)
			}
			places[first]++
		}
	}
	for place := -1; place < 6; place++ {
		if places[place] < 20 {
			t.Fatalf("%v: the test is wrong", places)
		}
	}
}

// wantOnce holds which nodes are met against how many tests are told: a leaf laid in a node's place is told if that node is met.
func wantOnce(t *testing.T, l []api.Node, f api.Facts) {
	t.Helper()
	const mark = 1 << 20
	tests, met := Tests(l, f), map[int]bool{}
	for place, n := range l {
		cut := slices.Clone(l)
		cut[place] = leaf(mark)
		if Rule(cut, f) != mark || n.Leaf {
			continue
		}
		ahead := Tests(cut, f)
		if met[ahead] || ahead >= tests {
			t.Fatalf("of %+v and %+v: the test at %d is met behind %d others, as another one is, or of only %d tests", l, f, place, ahead, tests)
		}
		met[ahead] = true
	}
	if len(met) != tests {
		t.Fatalf("of %+v and %+v: %d tests are told, and %d are met", l, f, tests, len(met))
	}
}

// P17.2: no node is met twice.
func TestNoNodeIsMetTwice(t *testing.T) {
	r := rand.New(rand.NewSource(1722))
	for range 1500 {
		f := someFacts(r)
		wantOnce(t, someTree(r, 1+r.Intn(30)), f)
		wantOnce(t, compile.Rules(when(someExpr(r, 3), someExpr(r, 3))), f)
	}
	same := and(fn(3), or(fn(3), fn(4)), not(and(fn(4), fn(3))))
	for function := range 6 {
		wantOnce(t, compile.Rules(when(same, same, not(same))), asks(function))
	}
}

// P17.1: long ways: as many tests as the tree has, or one of all these.
func TestLongWays(t *testing.T) {
	for _, size := range []int{2, 255, 512, 1 << 17} {
		l := nodes(leaf(-1), leaf(7))
		for i := range size {
			l = append(l, test(fn(5), 1+i, 0))
		}
		wantWalk(t, l, asks(5), 7, size)
		wantWalk(t, l, asks(6), -1, 1)
		for place := 2; place < len(l); place++ {
			l[place].Yes, l[place].No = max(place-1, 1), max(place-1, 1)
		}
		wantWalk(t, l, asks(5), 7, size)
		wantWalk(t, l, asks(6), 7, size)
		l[2+size/2].Yes = 0
		wantWalk(t, l, asks(5), -1, size-size/2)
		wantWalk(t, l, asks(6), 7, size)
	}
}

// P17.2: as many rules, and as deep, as a tree may be of.
func TestManyRules(t *testing.T) {
	var rules []api.Rule
	for i := range api.MaxRules {
		rules = append(rules, api.Rule{When: fn(i)})
	}
	l := compile.Rules(rules)
	for i := range rules {
		wantWalk(t, l, asks(i), i, i+1)
	}
	wantWalk(t, l, asks(api.MaxRules), -1, api.MaxRules)

	deep := compile.Rules(when(nested(fn(5), 200), nested(fn(6), 199)))
	wantWalk(t, deep, asks(5), 0, 1)
	wantWalk(t, deep, asks(6), -1, 2)
	wantWalk(t, deep, asks(7), 1, 2)

	e := fn(0)
	for i := 1; i < 100; i++ {
		e = and(not(fn(i)), or(e, fn(i)))
	}
	tall := compile.Rules(when(e))
	for function := range 102 {
		want, _ := told(tall, asks(function))
		if first := mean.First(when(e), asks(function)); first != want {
			t.Fatalf("layer 15 tells %d of the function %d; want %d", first, function, want)
		}
		_, tests := told(tall, asks(function))
		wantWalk(t, tall, asks(function), want, tests)
	}
	wantWalk(t, tall, asks(0), 0, 100)
	wantWalk(t, tall, asks(99), -1, 1)
	wantWalk(t, tall, asks(100), -1, 199)
}

// Rule 4: lists that hold nothing are alike, nil or empty.
func TestEmptyLists(t *testing.T) {
	bare := api.Facts{Client: 1, Unit: 17, Func: 16}
	empty := bare
	empty.Spans, empty.Values, empty.Regs = of(1, 2)[:0], []int{1}[:0], []int{}
	for _, f := range []api.Facts{bare, empty} {
		for _, atom := range []api.Expr{ranged(4, 0, 0), ranged(5, 0, 0), floats(1, 0)} {
			wantWalk(t, nodes(leaf(-1), leaf(0), test(atom, 1, 0)), f, 0, 1)
			atom.Of = []api.Expr{}
			wantWalk(t, nodes(leaf(-1), leaf(0), test(atom, 1, 0)), f, 0, 1)
		}
		if Rule(nil, f) != Rule([]api.Node{}, f) || Tests(nil, f) != Tests([]api.Node{}, f) {
			t.Fatal("a tree that is nil and one that is empty are told apart")
		}
	}
}

// Rule 5: what is handed in stays, its spare room too, behind each call: two changes might undo each other.
func TestWhatIsHandedInStays(t *testing.T) {
	ranges := append(of(9, 9, 5, 6, 1, 2, 3, 4), of(70, 71, 60, 61)...)
	atom := api.Expr{Kind: 1, Field: 4, Ranges: ranges[:4]}
	value := api.Expr{Kind: 1, Field: 5, Ranges: ranges[:4]}
	l := nodes(leaf(-1), leaf(0), test(atom, 1, 0), test(value, 2, 1), test(floats(0, 5), 3, 0), test(fn(9), 4, 1), leaf(70), test(fn(60), 9, 9))
	f := api.Facts{Client: 5, Unit: 4, Func: 9}
	f.Spans = append(of(5, 6, 1, 2), of(90, 80)...)[:2]
	f.Values = append([]int{9, 5, 1}, 80, 81)[:3]
	f.Regs = append(regs(4, 1), 80, 81)[:8]
	tell := func() string {
		var b strings.Builder
		fmt.Fprint(&b, l, ranges, f, f.Spans[:3], f.Values[:5], f.Regs[:10])
		return b.String()
	}
	before := tell()
	for size := 1; size <= 6; size++ {
		Rule(l[:size], f)
		if after := tell(); after != before {
			t.Fatalf("Rule of %d nodes: %s became %s", size, before, after)
		}
		Tests(l[:size], f)
		if after := tell(); after != before {
			t.Fatalf("Tests of %d nodes: %s became %s", size, before, after)
		}
	}
	wantWalk(t, l[:6], f, 0, 4)
}

// Rule 6: a call hangs on its arguments alone: nothing of the ones ahead is left in an answer.
func TestNothingIsKept(t *testing.T) {
	l, f := nodes(leaf(-1), leaf(3), test(fn(5), 1, 0), test(ranged(5, 7, 8), 2, 1)), asks(5)
	for range 3 {
		wantWalk(t, l, f, 3, 2)
		f.Func = 6
		wantWalk(t, l, f, -1, 2)
		f.Values[1] = 9
		wantWalk(t, l, f, 3, 1)
		l[3].Atom.Ranges[0].High = 9
		wantWalk(t, l, f, -1, 2)
		l[3].Yes = 1
		wantWalk(t, l, f, 3, 1)
		wantWalk(t, l[:1], f, -1, 0)
		l[3].Atom.Ranges[0].High, l[3].Yes, f.Func, f.Values[1] = 8, 2, 5, 8
	}
}

// Rule 1: of trees that aren't in order nothing is promised; still each call ends, and none panics.
func TestTreesNotInOrder(t *testing.T) {
	call := func(l []api.Node) {
		for _, f := range []api.Facts{{}, asks(5), asks(6)} {
			Rule(l, f)
			Tests(l, f)
		}
	}
	call(nil)
	call([]api.Node{})
	call(nodes(leaf(1), test(fn(5), 0, 0))[:0])
	goals := []int{-2, -1, 0, 1, 2, 3, 4, 5, 64, least, least + 1, greatest, 1 << 32, -1 << 32}
	for size := range 4 {
		for _, yes := range goals {
			for _, no := range goals {
				l := slices.Repeat(nodes(test(fn(5), yes, no)), size)
				call(l)
				call(append(l, test(fn(5), yes, no)))
				call(append(l, leaf(7), test(fn(5), yes, no)))
				call(append(l, test(fn(5), yes, no), leaf(7)))
				call(append(l, test(fn(5), no, yes), test(fn(6), yes, no)))
			}
		}
	}
	// Round through several nodes, and on to such as stand behind.
	call(nodes(test(fn(5), 3, 3), test(fn(5), 0, 0), test(fn(5), 1, 1), test(fn(5), 2, 2)))
	call(nodes(test(fn(5), 2, 1), test(fn(6), 2, 0), test(fn(5), 0, 1)))
	call(nodes(leaf(-1), test(fn(5), 3, 3), leaf(4), test(fn(5), 1, 1)))
}

// Rule 1: of nodes that may not be nothing is promised either.
func TestNodesThatMayNotBe(t *testing.T) {
	f := api.Facts{Client: least, Unit: greatest, Func: 5, Spans: of(greatest, least, least, greatest), Values: []int{least, greatest}, Regs: []int{least, greatest, -1, 65536}}
	for kind := -1; kind < 7; kind++ {
		for field := -1; field < 9; field++ {
			for _, parts := range [][]api.Expr{nil, {}, {{}}, {fn(3), {Kind: 2}}, {{Kind: 3}, {Kind: 9, Field: -1}}} {
				e := api.Expr{Kind: kind, Field: field, Ranges: of(greatest, least, least, greatest), Low: notOne, Of: parts}
				l := nodes(leaf(least), api.Node{Leaf: true, Rule: 3, Atom: e, Yes: 7, No: -7}, api.Node{Rule: 9, Atom: e, Yes: 1})
				Rule(l, f)
				Tests(l, f)
				Rule(l[:2], f)
				Tests(l[:2], f)
			}
		}
	}
	deep := nodes(leaf(-1), test(nested(fn(5), 1<<16), 0, 0))
	Rule(deep, f)
	Tests(deep, f)
}
