package compile

import (
	"fmt"
	"math"
	"math/rand"
	"slices"
	"strconv"
	"strings"
	"testing"

	"gatewarden/api"
	"gatewarden/check"
	"gatewarden/mean"
	"gatewarden/tree"
)

const (
	most     = 1 << 53
	least    = math.MinInt
	greatest = math.MaxInt
)

var (
	minusNought = math.Copysign(0, -1)
	infinite    = math.Inf(1)
	notOne      = math.NaN()
	otherNaN    = math.Float64frombits(0xfff8000000000007)
)

// of makes ranges of ends that stand by twos.
func of(ends ...int) []api.Range {
	var l []api.Range
	for i := 0; i+1 < len(ends); i += 2 {
		l = append(l, api.Range{Low: ends[i], High: ends[i+1]})
	}
	return l
}

// ranged makes an atom of a field and ranges whose ends stand by twos.
func ranged(field int, ends ...int) api.Expr {
	return api.Expr{Kind: 1, Field: field, Ranges: of(ends...)}
}

func fn(n int) api.Expr { return ranged(3, n, n) }

func floats(low, high float64) api.Expr {
	return api.Expr{Kind: 1, Field: 6, Low: low, High: high}
}

func made(kind int, l ...api.Expr) api.Expr { return api.Expr{Kind: kind, Of: l} }

func not(e api.Expr) api.Expr    { return made(2, e) }
func and(l ...api.Expr) api.Expr { return made(3, l...) }
func or(l ...api.Expr) api.Expr  { return made(4, l...) }

// nested answers e within so many nots.
func nested(e api.Expr, times int) api.Expr {
	for range times {
		e = not(e)
	}
	return e
}

// tall answers e within so many ands, ors and nots, each in another one, at the first place or the last one.
func tall(e api.Expr, times int) api.Expr {
	for i := range times {
		switch i % 5 {
		case 0:
			e = and(fn(i), e)
		case 1:
			e = or(e, fn(i))
		case 2:
			e = not(e)
		case 3:
			e = and(e, fn(i))
		case 4:
			e = or(fn(i), e)
		}
	}
	return e
}

func leaf(rule int) api.Node { return api.Node{Leaf: true, Rule: rule} }

func test(atom api.Expr, yes, no int) api.Node { return api.Node{Atom: atom, Yes: yes, No: no} }

// when makes rules of what they hold for.
func when(l ...api.Expr) []api.Rule {
	var rules []api.Rule
	for _, e := range l {
		rules = append(rules, api.Rule{When: e})
	}
	return rules
}

func writeExpr(b *strings.Builder, e api.Expr) {
	fmt.Fprintf(b, "{%d %d", e.Kind, e.Field)
	for _, r := range e.Ranges {
		fmt.Fprintf(b, " %d..%d", r.Low, r.High)
	}
	for _, x := range []float64{e.Low, e.High} {
		if math.IsNaN(x) {
			b.WriteString(" none")
			continue
		}
		b.WriteString(" " + strconv.FormatUint(math.Float64bits(x), 16))
	}
	for _, part := range e.Of {
		writeExpr(b, part)
	}
	b.WriteString("}")
}

// key tells all fields of nodes: unlike ones have unlike keys, and the calls of the layers below have no part in it.
func key(l ...api.Node) string {
	var b strings.Builder
	for i, n := range l {
		fmt.Fprintf(&b, "%d: %v %d ", i, n.Leaf, n.Rule)
		writeExpr(&b, n.Atom)
		fmt.Fprintf(&b, " %d %d\n", n.Yes, n.No)
	}
	return b.String()
}

func rulesKey(l []api.Rule) string {
	var b strings.Builder
	for _, r := range l {
		fmt.Fprint(&b, r.Allow, r.Rate, r.Line)
		writeExpr(&b, r.When)
	}
	return b.String()
}

func mayBeLaid(e api.Expr) bool {
	return tree.Right(e) && tree.Deep(e) <= 200 && haveNumbers(e)
}

// haveNumbers answers whether each range in e has a number.
func haveNumbers(e api.Expr) bool {
	for _, r := range e.Ranges {
		if r.Low > r.High {
			return false
		}
	}
	for _, part := range e.Of {
		if !haveNumbers(part) {
			return false
		}
	}
	return true
}

// wantTree holds a tree against the nodes that it must have, and against what follows of each tree.
// The first wrong answer ends a test: the loops over many rules would tell thousands of them.
func wantTree(t *testing.T, l []api.Rule, want ...api.Node) {
	t.Helper()
	atoms := 0
	for _, r := range l {
		if !mayBeLaid(r.When) {
			t.Fatalf("%s may not be laid: the test is wrong", rulesKey(l))
		}
		atoms += tree.Atoms(r.When)
	}
	got := Rules(l)
	if key(got...) != key(want...) {
		t.Fatalf("Rules(%s) =\n%s; want\n%s", rulesKey(l), key(got...), key(want...))
	}
	leaves := 0
	for _, n := range got {
		if n.Leaf {
			leaves++
		}
	}
	if len(got)-leaves != atoms || leaves != len(l)+1 {
		t.Fatalf("Rules(%s): %d tests of %d atoms, and %d leaves of %d rules", rulesKey(l), len(got)-leaves, atoms, leaves, len(l))
	}
	if !Right(got) || !Same(got, want) || !Same(want, got) {
		t.Fatalf("Rules(%s) =\n%s: Right %v, Same %v, %v; want all true", rulesKey(l), key(got...), Right(got), Same(got, want), Same(want, got))
	}
}

// P16.1: of no rule, the first leaf alone.
func TestNoRule(t *testing.T) {
	wantTree(t, nil, leaf(-1))
	wantTree(t, []api.Rule{}, leaf(-1))
	wantTree(t, when(fn(1), fn(2))[:0], leaf(-1))
}

// P16.1: the chapter's example, and one and two rules of one atom.
func TestFewRules(t *testing.T) {
	wantTree(t, []api.Rule{{When: fn(5)}, {Allow: true}}, leaf(-1), leaf(1), leaf(0), test(fn(5), 2, 1))
	wantTree(t, when(fn(5)), leaf(-1), leaf(0), test(fn(5), 1, 0))
	wantTree(t, when(fn(5), fn(6))[:1], leaf(-1), leaf(0), test(fn(5), 1, 0))
	wantTree(t, when(fn(5), fn(6)), leaf(-1), leaf(1), test(fn(6), 1, 0), leaf(0), test(fn(5), 3, 2))
	wantTree(t, when(fn(5), fn(5)), leaf(-1), leaf(1), test(fn(5), 1, 0), leaf(0), test(fn(5), 3, 2))
}

// P16.1: rules that always hold have a leaf and no test; they begin there, and so does what stands ahead of them.
func TestRulesThatAlwaysHold(t *testing.T) {
	all := api.Expr{}
	wantTree(t, when(all), leaf(-1), leaf(0))
	wantTree(t, when(all, all), leaf(-1), leaf(1), leaf(0))
	wantTree(t, when(all, all, all), leaf(-1), leaf(2), leaf(1), leaf(0))
	wantTree(t, when(all, fn(5)), leaf(-1), leaf(1), test(fn(5), 1, 0), leaf(0))
	wantTree(t, when(fn(5), all, fn(6)), leaf(-1), leaf(2), test(fn(6), 1, 0), leaf(1), leaf(0), test(fn(5), 4, 3))
	wantTree(t, when(not(fn(5)), all, all), leaf(-1), leaf(2), leaf(1), leaf(0), test(fn(5), 2, 3))
	empty := api.Expr{Ranges: []api.Range{}, Of: []api.Expr{}}
	wantTree(t, when(empty, fn(5), empty), leaf(-1), leaf(2), leaf(1), test(fn(5), 2, 1), leaf(0))
}

// P16.1: three rules, each of several atoms, one of them turned about.
func TestSeveralRules(t *testing.T) {
	a, b, c, d := fn(1), fn(2), fn(3), fn(4)
	wantTree(t, when(and(a, b), not(c), or(a, d)),
		leaf(-1), leaf(2), test(d, 1, 0), test(a, 1, 2),
		leaf(1), test(c, 3, 4),
		leaf(0), test(b, 6, 5), test(a, 7, 5))
	wantTree(t, when(or(a, b), and(c, d), api.Expr{}),
		leaf(-1), leaf(2),
		leaf(1), test(d, 2, 1), test(c, 3, 1),
		leaf(0), test(b, 5, 4), test(a, 5, 6))
	wantTree(t, when(not(and(a, b)), not(or(c, d))),
		leaf(-1), leaf(1), test(d, 0, 1), test(c, 0, 2),
		leaf(0), test(b, 3, 4), test(a, 5, 4))
}

// P16.1: how an expression is laid, by hand: the leaves stand at 0 and 1, the tests from 2 on.
func TestExpressions(t *testing.T) {
	a, b, c, d := fn(1), fn(2), fn(3), fn(4)
	type tests [][3]int // the function of the atom, Yes, No
	for _, one := range []struct {
		e    api.Expr
		want tests
	}{
		{a, tests{{1, 1, 0}}},
		{not(a), tests{{1, 0, 1}}},
		{not(not(a)), tests{{1, 1, 0}}},
		{not(not(not(a))), tests{{1, 0, 1}}},

		{and(a, b), tests{{2, 1, 0}, {1, 2, 0}}},
		{and(b, a), tests{{1, 1, 0}, {2, 2, 0}}},
		{and(a, a), tests{{1, 1, 0}, {1, 2, 0}}},
		{and(a, b, c), tests{{3, 1, 0}, {2, 2, 0}, {1, 3, 0}}},
		{and(d, c, b, a), tests{{1, 1, 0}, {2, 2, 0}, {3, 3, 0}, {4, 4, 0}}},
		{or(a, b), tests{{2, 1, 0}, {1, 1, 2}}},
		{or(b, a), tests{{1, 1, 0}, {2, 1, 2}}},
		{or(a, a), tests{{1, 1, 0}, {1, 1, 2}}},
		{or(a, b, c), tests{{3, 1, 0}, {2, 1, 2}, {1, 1, 3}}},
		{or(d, c, b, a), tests{{1, 1, 0}, {2, 1, 2}, {3, 1, 3}, {4, 1, 4}}},

		{not(and(a, b)), tests{{2, 0, 1}, {1, 2, 1}}},
		{not(or(a, b)), tests{{2, 0, 1}, {1, 0, 2}}},
		{not(not(and(a, b))), tests{{2, 1, 0}, {1, 2, 0}}},
		{not(not(or(a, b))), tests{{2, 1, 0}, {1, 1, 2}}},
		{not(and(a, b, c)), tests{{3, 0, 1}, {2, 2, 1}, {1, 3, 1}}},
		{not(or(a, b, c)), tests{{3, 0, 1}, {2, 0, 2}, {1, 0, 3}}},

		{and(not(a), b), tests{{2, 1, 0}, {1, 0, 2}}},
		{and(a, not(b)), tests{{2, 0, 1}, {1, 2, 0}}},
		{and(not(a), not(b)), tests{{2, 0, 1}, {1, 0, 2}}},
		{or(not(a), b), tests{{2, 1, 0}, {1, 2, 1}}},
		{or(a, not(b)), tests{{2, 0, 1}, {1, 1, 2}}},
		{or(not(a), not(b)), tests{{2, 0, 1}, {1, 2, 1}}},

		{and(and(a, b), c), tests{{3, 1, 0}, {2, 2, 0}, {1, 3, 0}}},
		{and(a, and(b, c)), tests{{3, 1, 0}, {2, 2, 0}, {1, 3, 0}}},
		{or(or(a, b), c), tests{{3, 1, 0}, {2, 1, 2}, {1, 1, 3}}},
		{or(a, or(b, c)), tests{{3, 1, 0}, {2, 1, 2}, {1, 1, 3}}},
		{and(or(a, b), c), tests{{3, 1, 0}, {2, 2, 0}, {1, 2, 3}}},
		{and(a, or(b, c)), tests{{3, 1, 0}, {2, 1, 2}, {1, 3, 0}}},
		{or(and(a, b), c), tests{{3, 1, 0}, {2, 1, 2}, {1, 3, 2}}},
		{or(a, and(b, c)), tests{{3, 1, 0}, {2, 2, 0}, {1, 1, 3}}},

		{and(or(a, b), or(c, d)), tests{{4, 1, 0}, {3, 1, 2}, {2, 3, 0}, {1, 3, 4}}},
		{or(and(a, b), and(c, d)), tests{{4, 1, 0}, {3, 2, 0}, {2, 1, 3}, {1, 4, 3}}},
		{not(and(or(a, b), or(c, d))), tests{{4, 0, 1}, {3, 0, 2}, {2, 3, 1}, {1, 3, 4}}},
		{not(or(and(a, b), and(c, d))), tests{{4, 0, 1}, {3, 2, 1}, {2, 0, 3}, {1, 4, 3}}},
		{and(a, not(or(b, c))), tests{{3, 0, 1}, {2, 0, 2}, {1, 3, 0}}},
		{or(a, not(and(b, c))), tests{{3, 0, 1}, {2, 2, 1}, {1, 1, 3}}},
		{and(a, or(b, c), d), tests{{4, 1, 0}, {3, 2, 0}, {2, 2, 3}, {1, 4, 0}}},
		{or(a, and(b, c), d), tests{{4, 1, 0}, {3, 1, 2}, {2, 3, 2}, {1, 1, 4}}},
		{not(and(a, not(or(b, c)), d)), tests{{4, 0, 1}, {3, 1, 2}, {2, 1, 3}, {1, 4, 1}}},
	} {
		want := []api.Node{leaf(-1), leaf(0)}
		for _, n := range one.want {
			want = append(want, test(fn(n[0]), n[1], n[2]))
		}
		wantTree(t, when(one.e), want...)
	}
}

// P16.1: ands and ors of many parts.
func TestManyParts(t *testing.T) {
	for _, size := range []int{2, 3, 16, 255, 512, 5000} {
		parts := make([]api.Expr, size)
		for i := range parts {
			parts[i] = fn(i)
		}
		ands, ors := []api.Node{leaf(-1), leaf(0)}, []api.Node{leaf(-1), leaf(0)}
		turned := []api.Node{leaf(-1), leaf(0)}
		for i := range size {
			behind := 1 + i
			atom := fn(size - 1 - i)
			ands = append(ands, test(atom, behind, 0))
			if i == 0 {
				behind = 0
			}
			ors = append(ors, test(atom, 1, behind))
			turned = append(turned, test(atom, 0, max(behind, 1)))
		}
		wantTree(t, when(and(parts...)), ands...)
		wantTree(t, when(or(parts...)), ors...)
		wantTree(t, when(not(or(parts...))), turned...)
	}
}

// P16.1: the atom of a test is that of the expression, with its ranges in order.
func TestAtoms(t *testing.T) {
	for field := 1; field <= 5; field++ {
		for _, one := range []struct{ ends, want []int }{
			{[]int{5, 5}, []int{5, 5}},
			{[]int{0, most}, []int{0, most}},
			{[]int{most, most}, []int{most, most}},
			{[]int{5, 7, 1, 2, 3, 4}, []int{1, 7}},
			{[]int{1, 2, 4, 5}, []int{1, 2, 4, 5}},
			{[]int{4, 5, 1, 2}, []int{1, 2, 4, 5}},
			{[]int{1, 2, 3, 4}, []int{1, 4}},
			{[]int{1, 9, 3, 4}, []int{1, 9}},
			{[]int{9, 9, 9, 9, 0, 0}, []int{0, 0, 9, 9}},
			{[]int{70, 80, 60, 65, 20, 30, 66, 68, 10, 18}, []int{10, 18, 20, 30, 60, 68, 70, 80}},
		} {
			atom, want := ranged(field, one.ends...), ranged(field, one.want...)
			wantTree(t, when(atom), leaf(-1), leaf(0), test(want, 1, 0))
			wantTree(t, when(not(atom)), leaf(-1), leaf(0), test(want, 0, 1))
			wantTree(t, when(and(fn(7), or(fn(8), atom)), atom),
				leaf(-1), leaf(1), test(want, 1, 0), leaf(0), test(want, 3, 2), test(fn(8), 3, 4), test(fn(7), 5, 2))
			empty := atom
			empty.Of = []api.Expr{}
			wantTree(t, when(empty), leaf(-1), leaf(0), test(want, 1, 0))
		}
	}
}

// P16.1: bounds stay as they are: the sign of a nought, and which one is the greater.
func TestAtomsOfFloats(t *testing.T) {
	bounds := []float64{0, minusNought, 1, -5, most, -most, infinite, -infinite}
	for _, low := range bounds {
		for _, high := range bounds {
			e := floats(low, high)
			wantTree(t, when(e), leaf(-1), leaf(0), test(e, 1, 0))
			wantTree(t, when(or(not(e), fn(7))), leaf(-1), leaf(0), test(fn(7), 1, 0), test(e, 2, 1))
			empty := e
			empty.Ranges = []api.Range{}
			wantTree(t, when(empty), leaf(-1), leaf(0), test(e, 1, 0))
		}
	}
}

// P16.1: a tree goes by the Whens alone.
func TestWhatElseIsInARule(t *testing.T) {
	for _, rate := range []api.Rate{{}, {Num: 1, Per: 2, Burst: 3}, {Num: least, Per: greatest}} {
		for _, line := range []int{0, 1, least, greatest} {
			l := []api.Rule{{Allow: true, When: fn(1), Rate: rate, Line: line}, {When: fn(2), Rate: rate, Line: line}}
			wantTree(t, l, leaf(-1), leaf(1), test(fn(2), 1, 0), leaf(0), test(fn(1), 3, 2))
		}
	}
}

// outer is one expression that an atom stands in: whether at its last part, and how many atoms are read up to the end of that part.
type outer struct {
	kind int
	last bool
	read int
}

// goal answers where a rule goes on behind an atom, whether it held or not: at another of its atoms, by its number, or, if there is none (-1), as what the rule comes to.
func goal(within []outer, held bool) (int, bool) {
	for _, o := range slices.Backward(within) {
		switch {
		case o.kind == 2:
			held = !held
		case !o.last && held == (o.kind == 3):
			return o.read, held
		}
	}
	return -1, held
}

// found is an atom of a rule, and what it stands in.
type found struct {
	atom   api.Expr
	within []outer
}

// read answers all atoms in e, as they are read, behind those of before.
func read(e api.Expr, within []outer, before []found) []found {
	if e.Kind == 1 {
		return append(before, found{e, within})
	}
	for i, part := range e.Of {
		o := outer{e.Kind, i == len(e.Of)-1, len(before) + tree.Atoms(part)}
		before = read(part, append(slices.Clone(within), o), before)
	}
	return before
}

// reckoned answers the tree of rules another way: each rule's atoms stand behind its leaf, the last one first, and each goes on where one who reads the rule would, who knows of it only what comes to something.
func reckoned(l []api.Rule) []api.Node {
	nodes := []api.Node{leaf(-1)}
	for i := range l {
		rule := len(l) - 1 - i
		behind := len(nodes) - 1
		own := len(nodes)
		nodes = append(nodes, leaf(rule))
		atoms := read(l[rule].When, nil, nil)
		place := func(within []outer, held bool) int {
			number, held := goal(within, held)
			switch {
			case number >= 0:
				return own + len(atoms) - number
			case held:
				return own
			}
			return behind
		}
		for _, one := range slices.Backward(atoms) {
			atom := one.atom
			atom.Ranges = numbersOf(atom.Ranges)
			nodes = append(nodes, test(atom, place(one.within, true), place(one.within, false)))
		}
	}
	return nodes
}

// numbersOf answers the ranges in order of small numbers, by these themselves.
func numbersOf(l []api.Range) []api.Range {
	var has [100]bool
	for _, r := range l {
		for n := r.Low; n <= r.High; n++ {
			has[n] = true
		}
	}
	var ordered []api.Range
	for n := range has {
		switch {
		case !has[n]:
		case n > 0 && has[n-1]:
			ordered[len(ordered)-1].High = n
		default:
			ordered = append(ordered, api.Range{Low: n, High: n})
		}
	}
	return ordered
}

// someAtom answers an atom of small numbers.
func someAtom(random *rand.Rand) api.Expr {
	if random.Intn(6) == 0 {
		return floats(float64(random.Intn(9)-4), float64(random.Intn(9)-4))
	}
	e := api.Expr{Kind: 1, Field: 1 + random.Intn(5)}
	for range 1 + random.Intn(4) {
		low := random.Intn(12)
		e.Ranges = append(e.Ranges, api.Range{Low: low, High: low + random.Intn(4)})
	}
	return e
}

// someExpr answers an expression that may be, and isn't ExprAll.
func someExpr(random *rand.Rand, deep int) api.Expr {
	kind := 1 + random.Intn(4)
	if deep == 0 || kind == 1 {
		return someAtom(random)
	}
	e := api.Expr{Kind: kind, Of: []api.Expr{someExpr(random, deep-1)}}
	for kind > 2 && (len(e.Of) < 2 || random.Intn(3) == 0) {
		e.Of = append(e.Of, someExpr(random, deep-1))
	}
	return e
}

func someRules(random *rand.Rand) []api.Rule {
	l := make([]api.Rule, random.Intn(6))
	for i := range l {
		if random.Intn(6) > 0 {
			l[i].When = someExpr(random, random.Intn(6))
		}
	}
	return l
}

// someFacts answers facts of small numbers.
func someFacts(random *rand.Rand) api.Facts {
	f := api.Facts{Client: random.Intn(15), Unit: random.Intn(15), Func: random.Intn(15)}
	for range random.Intn(3) {
		low := random.Intn(14)
		f.Spans = append(f.Spans, api.Range{Low: low, High: low + random.Intn(3)})
		f.Values = append(f.Values, random.Intn(15))
	}
	for range random.Intn(3) {
		bits := math.Float64bits(float64(random.Intn(11) - 5))
		for _, worth := range []uint64{1 << 48, 1 << 32, 1 << 16, 1} {
			f.Regs = append(f.Regs, int(bits/worth%65536))
		}
	}
	return f
}

// follow answers the rule that a tree tells; each node that it comes to stands ahead of the one before.
func follow(l []api.Node, f api.Facts) int {
	at := len(l) - 1
	for !l[at].Leaf {
		if mean.Holds(l[at].Atom, f) {
			at = l[at].Yes
		} else {
			at = l[at].No
		}
	}
	return l[at].Rule
}

// P16.1, P16.2: many trees, each node reckoned another way; begun at the last node, a tree tells the first rule that holds.
func TestManyTrees(t *testing.T) {
	random := rand.New(rand.NewSource(16))
	for range 3000 {
		l := someRules(random)
		wantTree(t, l, reckoned(l)...)
		nodes := Rules(l)
		for range 10 {
			f := someFacts(random)
			if got, want := follow(nodes, f), mean.First(l, f); got != want {
				t.Fatalf("the tree of %s tells the rule %d of %+v; want %d", rulesKey(l), got, f, want)
			}
		}
	}
}

// P16.1: expressions that are 200 deep.
func TestDeep(t *testing.T) {
	wantTree(t, when(nested(fn(1), 200)), leaf(-1), leaf(0), test(fn(1), 1, 0))
	wantTree(t, when(nested(fn(1), 199)), leaf(-1), leaf(0), test(fn(1), 0, 1))
	wantTree(t, when(nested(and(fn(1), fn(2)), 199)), leaf(-1), leaf(0), test(fn(2), 0, 1), test(fn(1), 2, 1))
	for _, inner := range []api.Expr{fn(7), not(fn(7)), and(fn(7), fn(8)), or(fn(7), fn(8))} {
		for times := 190; times+tree.Deep(inner) <= 200; times++ {
			l := when(tall(inner, times), nested(tall(fn(9), 80), 120), tall(nested(fn(9), 30), 170))
			for i := range l {
				l[i].When = lowered(l[i].When)
			}
			wantTree(t, l, reckoned(l)...)
		}
	}
}

// lowered answers e with ranges of numbers below 100 alone.
func lowered(e api.Expr) api.Expr {
	var ranges []api.Range
	for _, r := range e.Ranges {
		ranges = append(ranges, api.Range{Low: r.Low % 100, High: r.Low % 100})
	}
	e.Ranges = ranges
	var parts []api.Expr
	for _, part := range e.Of {
		parts = append(parts, lowered(part))
	}
	e.Of = parts
	return e
}

// P16.1, P16.2: as many rules and atoms as a policy may have, and more.
func TestManyRules(t *testing.T) {
	for _, size := range []int{63, 64, 65, 1000} {
		var l []api.Rule
		for i := range size {
			parts := []api.Expr{fn(i % 99), ranged(4, 1, 2, 5, 9), not(floats(-1, 1)), ranged(1, 3, 4, 1, 1), fn(2), fn(3), fn(4), ranged(2, 8, 9)}
			l = append(l, api.Rule{When: made(3+i%2, parts...)})
		}
		wantTree(t, l, reckoned(l)...)
		wantTree(t, slices.Repeat(when(api.Expr{}), size), reckoned(make([]api.Rule, size))...)
	}
}

// P16.1: from a policy's text on.
func TestOfText(t *testing.T) {
	l, _, e := check.Policy("deny when unit 9,7-8 and not (func 3 or func 4);\nallow when real -0 to inf or addr 0-9 rate 1 per 2 burst 1;\ndeny;")
	if e != api.OK {
		t.Fatal("this is no policy: the test is wrong")
	}
	wantTree(t, l,
		leaf(-1), leaf(2),
		leaf(1), test(ranged(4, 0, 9), 2, 1), test(floats(minusNought, infinite), 2, 3),
		leaf(0), test(fn(4), 4, 5), test(fn(3), 4, 6), test(ranged(2, 7, 9), 7, 4))
}

func wantRight(t *testing.T, want bool, l ...api.Node) {
	t.Helper()
	if got := Right(l); got != want {
		t.Fatalf("Right of\n%s= %v; want %v", key(l...), got, want)
	}
}

// P16.1: a tree in order has a node; leaves are of a rule, or of none.
func TestRightOfLeaves(t *testing.T) {
	wantRight(t, false)
	if Right([]api.Node{}) || Right([]api.Node{leaf(0)}[:0]) {
		t.Fatal("no node is in order")
	}
	for _, rule := range []int{-1, 0, 1, 63, 64, 1 << 32, greatest} {
		wantRight(t, true, leaf(rule))
		wantRight(t, true, leaf(-1), leaf(rule))
		wantRight(t, true, leaf(rule), leaf(rule), leaf(0))
	}
	for _, rule := range []int{-2, -3, -64, -1 << 32, least + 1, least} {
		wantRight(t, false, leaf(rule))
		wantRight(t, false, leaf(-1), leaf(rule))
		wantRight(t, false, leaf(rule), leaf(0))
		wantRight(t, false, leaf(-1), leaf(rule), test(fn(1), 0, 1))
	}
	empty := leaf(3)
	empty.Atom.Ranges, empty.Atom.Of = []api.Range{}, []api.Expr{}
	wantRight(t, true, empty)
}

// P16.1: a leaf that has more than a rule.
func TestRightOfLeavesWithMore(t *testing.T) {
	var wrong []api.Node
	for _, rule := range []int{-1, 0, 1} {
		for _, n := range []int{1, -1, 2, least, greatest} {
			for field := range 4 {
				one := leaf(rule)
				*[]*int{&one.Yes, &one.No, &one.Atom.Kind, &one.Atom.Field}[field] = n
				wrong = append(wrong, one)
			}
		}
		for _, x := range []float64{1, -1, minusNought, notOne, infinite} {
			low, high := leaf(rule), leaf(rule)
			low.Atom.Low, high.Atom.High = x, x
			wrong = append(wrong, low, high)
		}
		for _, e := range []api.Expr{fn(1), floats(0, 0), not(fn(1)), {Ranges: of(0, 0)}, {Of: []api.Expr{{}}}, nested(fn(1), 1<<16)} {
			one := leaf(rule)
			one.Atom = e
			wrong = append(wrong, one)
		}
	}
	for _, one := range wrong {
		wantRight(t, false, one)
		wantRight(t, false, leaf(-1), leaf(0), leaf(1), one)
		wantRight(t, false, one, leaf(-1))
		wantRight(t, false, leaf(-1), leaf(0), one, test(fn(1), 0, 1))
	}
}

// P16.1: tests go on at nodes that stand ahead of them, at any of these.
func TestRightOfTests(t *testing.T) {
	leaves := []api.Node{leaf(-1), leaf(1), leaf(0)}
	for place := range 4 {
		ahead := leaves[:place]
		for _, yes := range []int{-1, 0, 1, 2, 3, 4, 5, -2, least, greatest, 1 << 32, -1 << 32} {
			for _, no := range []int{-1, 0, 1, 2, 3, 4, 5, -2, least, greatest, 1<<32 + 1} {
				want := 0 <= yes && yes < place && 0 <= no && no < place
				l := append(slices.Clone(ahead), test(fn(1), yes, no))
				wantRight(t, want, l...)
				// What stands behind a test doesn't count for it.
				wantRight(t, want, append(l, leaves...)...)
				if want {
					wantRight(t, true, append(l, test(fn(2), place, 0), test(fn(3), place+1, place))...)
				}
				wantRight(t, false, append(l, test(fn(2), place, place+1))...)
				wantRight(t, false, append(l, test(fn(2), place+1, place))...)
			}
		}
	}
	wantRight(t, false, test(fn(1), 0, 0))
	wantRight(t, false, test(fn(1), 0, 0), leaf(-1))
	wantRight(t, false, test(fn(1), 1, 1), leaf(-1))
}

// P16.1: the atom of a test is one, and may be; its Rule is 0.
func TestRightOfAtoms(t *testing.T) {
	wantAtom := func(e api.Expr, want bool) {
		t.Helper()
		wantRight(t, want, leaf(-1), test(e, 0, 0))
		wantRight(t, want, leaf(-1), test(e, 0, 0), leaf(0))
		for _, rule := range []int{-1, 1, -2, 64, least, greatest} {
			one := test(e, 0, 0)
			one.Rule = rule
			wantRight(t, false, leaf(-1), one)
			wantRight(t, false, leaf(-1), one, leaf(0))
		}
	}
	for _, e := range []api.Expr{
		fn(0), fn(3), ranged(1, 0, most), ranged(2, 1, 2, 5, 6), ranged(4, 5, 6, 1, 2), ranged(5, 6, 5), ranged(3, 1, 1, 1, 1),
		floats(0, 0), floats(minusNought, 0), floats(-infinite, infinite), floats(5, -5), {Kind: 1, Field: 3, Ranges: of(1, 1), Of: []api.Expr{}},
	} {
		wantAtom(e, true)
	}
	more, bound, both := fn(3), fn(3), floats(0, 1)
	more.Of, bound.Low, both.Ranges = []api.Expr{fn(1)}, minusNought, of(0, 1)
	for _, e := range []api.Expr{
		{}, ranged(3), ranged(0, 1, 1), ranged(7, 1, 1), ranged(-1, 1, 1), ranged(3, -1, 1), ranged(3, 0, most+1), ranged(1, 1, 1, least, greatest),
		floats(notOne, 0), floats(0, notOne), floats(0.5, 1), floats(0, most+2), more, bound, both,
		// These may be, but are no atoms.
		not(fn(1)), and(fn(1), fn(2)), or(fn(1), fn(2)), not(not(fn(1))),
		{Kind: -1}, {Kind: 5, Field: 3, Ranges: of(1, 1)}, {Kind: 1<<32 + 1, Field: 3, Ranges: of(1, 1)},
	} {
		wantAtom(e, false)
	}
}

// P16.1: whatever one node is wrong by, at each place of a tree.
func TestRightOfOneWrongNode(t *testing.T) {
	good := Rules(when(and(fn(1), or(fn(2), fn(3))), not(fn(4)), api.Expr{}))
	for place := range good {
		for i := range 7 {
			l := slices.Clone(good)
			one := &l[place]
			switch i {
			case 0:
				one.Yes = place
			case 1:
				one.No = place + 1
			case 2:
				one.Yes = -1
			case 3:
				one.No = least
			case 4:
				one.Rule = -2
			case 5:
				one.Atom = not(fn(1))
			case 6:
				one.Leaf = !one.Leaf
			}
			// At the first leaf this changes nothing: its Yes is 0 anyway.
			wantRight(t, place == 0 && i == 0, l...)
		}
	}
	wantRight(t, true, good...)
	for size := 1; size <= len(good); size++ {
		wantRight(t, true, good[:size]...)
	}
	wantRight(t, false, good[1:]...)
}

func wantSame(t *testing.T, a, b []api.Node, want bool) {
	t.Helper()
	if got, turned := Same(a, b), Same(b, a); got != want || turned != want {
		t.Fatalf("Same of\n%sand\n%s= %v, turned about %v; want %v", key(a...), key(b...), got, turned, want)
	}
}

// apart are nodes, no two of which are the same, many of them by one field alone.
func apart() []api.Node {
	l := []api.Node{{}, {Leaf: true}, {Rule: 1}, {Rule: -1}, {Yes: 1}, {No: 1}, {Yes: 1, No: 1}, {Yes: least}, {No: greatest}}
	for _, rule := range []int{-1, 1, 2, least, greatest} {
		l = append(l, leaf(rule))
	}
	for _, atom := range []api.Expr{
		fn(1), fn(2), ranged(2, 1, 1), ranged(3, 1, 2), ranged(3, 1, 2, 4, 5), ranged(3, 4, 5, 1, 2), ranged(3, 1, 1, 2, 2), ranged(3),
		floats(0, 0), floats(minusNought, 0), floats(0, minusNought), floats(minusNought, minusNought), floats(notOne, 0), floats(0, notOne), floats(0, 1),
		not(fn(1)), not(fn(2)), and(fn(1), fn(2)), or(fn(1), fn(2)), {Low: minusNought}, {High: minusNought}, {Low: notOne}, {Of: []api.Expr{{}}},
	} {
		l = append(l, test(atom, 0, 0), test(atom, 1, 0), test(atom, 0, 1), api.Node{Leaf: true, Atom: atom}, api.Node{Rule: 5, Atom: atom})
	}
	return l
}

// anew answers the node with lists of its own, nil ones as empty ones.
func anew(n api.Node) api.Node {
	n.Atom.Ranges = append(make([]api.Range, 0, 9), n.Atom.Ranges...)
	n.Atom.Of = append(make([]api.Expr, 0, 9), n.Atom.Of...)
	if math.IsNaN(n.Atom.Low) {
		n.Atom.Low = otherNaN
	}
	return n
}

// P16.1: Same goes by all fields of each node, also of such as may not be.
func TestSameOfNodes(t *testing.T) {
	l := apart()
	good := Rules(when(fn(5), not(fn(6))))
	for i, a := range l {
		for j := range l {
			b := anew(l[j])
			if i != j && key(a) == key(b) {
				t.Fatalf("%sstands in the test twice", key(a))
			}
			wantSame(t, []api.Node{a}, []api.Node{b}, i == j)
			wantSame(t, append(slices.Clone(good), a), append(slices.Clone(good), b), i == j)
			wantSame(t, append([]api.Node{a}, good...), append([]api.Node{b}, good...), i == j)
		}
	}
}

// P16.1: lists of unlike lengths, or in another order, aren't the same.
func TestSameOfLists(t *testing.T) {
	var none []api.Node
	wantSame(t, none, none, true)
	wantSame(t, none, []api.Node{}, true)
	for _, l := range [][]api.Node{apart(), Rules(when(fn(5))), {{}, {Leaf: true}}} {
		wantSame(t, l, l, true)
		wantSame(t, l, slices.Clone(l), true)
		for i := range l {
			wantSame(t, l, l[:i], false)
			wantSame(t, l[:i], slices.Clone(l[:i]), true)
			if i > 0 {
				wantSame(t, l, l[i:], false)
				turned := slices.Clone(l)
				turned[0], turned[i] = turned[i], turned[0]
				wantSame(t, l, turned, false)
			}
		}
		wantSame(t, l, append(slices.Clone(l), api.Node{}), false)
		wantSame(t, l, append(slices.Clone(l), l[len(l)-1]), false)
	}
	wantSame(t, []api.Node{{}}, none, false)
}

// P16.1: Same is asked of all nodes, of such too whose atoms are deep.
func TestSameOfDeepNodes(t *testing.T) {
	a := []api.Node{test(nested(fn(1), 1<<16), 0, 0)}
	if !Same(a, []api.Node{test(nested(fn(1), 1<<16), 0, 0)}) {
		t.Fatal("deep nodes that are the same are told apart")
	}
	if Same(a, []api.Node{test(nested(fn(2), 1<<16), 0, 0)}) || Same(a, []api.Node{test(nested(fn(1), 1<<16-1), 0, 0)}) {
		t.Fatal("deep nodes that aren't the same are told as such")
	}
	if Right(append([]api.Node{leaf(-1)}, a...)) {
		t.Fatal("a deep not is taken as an atom")
	}
}

// Rule 5: what is handed in stays, its spare room too: the ranges that are put in order, the parts, the rules and nodes.
func TestWhatIsHandedInStays(t *testing.T) {
	ranges := append(of(9, 9, 5, 6, 1, 2, 3, 3), of(70, 71, 60, 61)...)
	atom := api.Expr{Kind: 1, Field: 4, Ranges: ranges[:4]}
	parts := []api.Expr{not(atom), atom, or(fn(9), atom), fn(70), fn(60)}
	rules := []api.Rule{{When: and(parts[:3]...)}, {When: atom, Line: 3}, {Allow: true}, {When: fn(70)}, {When: fn(60)}}
	nodes := append(Rules(rules[:3]), leaf(9), test(fn(1), 7, 7))
	nodes[len(nodes)-3].Atom = atom
	given := nodes[:len(nodes)-2]
	tell := func() string {
		return fmt.Sprint(ranges) + key(test(made(9, parts...), 0, 0)) + rulesKey(rules) + key(nodes...)
	}
	before := tell()
	for i, ask := range []func(){
		func() { Rules(rules[:3]) },
		func() { Rules(rules[:1]) },
		func() { Rules(rules[1:2]) },
		func() { Right(given) },
		func() { Right(given[:2]) },
		func() { Same(given, given) },
		func() { Same(given, slices.Clone(given)) },
		func() { Same(given[:2], given) },
	} {
		ask()
		if after := tell(); after != before {
			t.Fatalf("call %d: %s became %s", i, before, after)
		}
	}
}

// Rule 5: what is answered may be changed, and what was handed in stays; no two lists of an answer share any.
func TestAnswersStandAlone(t *testing.T) {
	atom := ranged(3, 1, 2, 5, 6)
	atom.Of = make([]api.Expr, 0, 3)
	l := when(and(atom, not(atom)), atom)
	before := rulesKey(l)
	nodes := Rules(l)
	first := Rules(l)
	for i := range nodes {
		rest := key(append(slices.Clone(nodes[:i]), nodes[i+1:]...)...)
		for j := range nodes[i].Atom.Ranges {
			nodes[i].Atom.Ranges[j] = api.Range{Low: 8, High: 8}
		}
		_ = append(nodes[i].Atom.Ranges, api.Range{Low: 9, High: 9})
		_ = append(nodes[i].Atom.Of, fn(9))
		nodes[i].Rule = 7
		if key(append(slices.Clone(nodes[:i]), nodes[i+1:]...)...) != rest {
			t.Fatalf("the node %d shares a list with another one", i)
		}
	}
	if rulesKey(l) != before || atom.Of[:1][0].Kind != 0 {
		t.Fatalf("%s became %s", before, rulesKey(l))
	}
	wantSame(t, first, Rules(l), true)
}

// Rule 6: a call hangs on its arguments alone: nothing of the ones ahead is left in an answer.
func TestNothingIsKept(t *testing.T) {
	l := when(or(fn(3), fn(4)), fn(5))
	for range 3 {
		wantTree(t, l, leaf(-1), leaf(1), test(fn(5), 1, 0), leaf(0), test(fn(4), 3, 2), test(fn(3), 3, 4))
		l[0].When.Kind, l[1].When.Ranges[0].Low = 3, 1
		wantTree(t, l, leaf(-1), leaf(1), test(ranged(3, 1, 5), 1, 0), leaf(0), test(fn(4), 3, 2), test(fn(3), 4, 2))
		l[0].When.Kind, l[1].When.Ranges[0].Low = 4, 5
		wantTree(t, nil, leaf(-1))
	}
}

// Rule 1: of rules that may not be laid nothing is promised; still no call panics.
func TestWhatMayNotBeLaid(t *testing.T) {
	for kind := -1; kind < 7; kind++ {
		for number := -1; number < 9; number++ {
			for _, l := range [][]api.Expr{nil, {}, {{}}, {fn(3), {Kind: 2}}, {{Kind: 3}, {Kind: 9, Field: -1}, {Kind: 4}}} {
				e := api.Expr{Kind: kind, Field: number, Ranges: of(greatest, least, least, greatest, 3, 2), Low: notOne, Of: l}
				for _, rules := range [][]api.Rule{when(e), when(not(e), and(e, e)), when(fn(1), or(e, fn(2)), api.Expr{})} {
					nodes := Rules(rules)
					Right(nodes)
					Same(nodes, nodes)
				}
			}
		}
	}
	Rules(when(nested(fn(1), 1<<16)))
}
