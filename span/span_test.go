package span

import (
	"math"
	"math/big"
	"math/rand"
	"slices"
	"testing"

	"gatewarden/api"
)

const (
	least    = math.MinInt
	greatest = math.MaxInt
)

// of makes ranges of ends that stand by twos.
func of(ends ...int) []api.Range {
	var l []api.Range
	for i := 0; i+1 < len(ends); i += 2 {
		l = append(l, api.Range{Low: ends[i], High: ends[i+1]})
	}
	return l
}

// The first wrong answer ends a test: the loops over all lists would tell thousands of them.
func wantRight(t *testing.T, l []api.Range, want bool) {
	t.Helper()
	if got := Right(l); got != want {
		t.Fatalf("Right(%v) = %v; want %v", l, got, want)
	}
}

func wantNorm(t *testing.T, l, want []api.Range) {
	t.Helper()
	got := Norm(l)
	if len(got) != len(want) {
		t.Fatalf("Norm(%v) = %v; want %v", l, got, want)
	}
	for i := range got {
		if got[i] != want[i] {
			t.Fatalf("Norm(%v) = %v; want %v", l, got, want)
		}
	}
}

func wantHas(t *testing.T, l []api.Range, n int, want bool) {
	t.Helper()
	if got := Has(l, n); got != want {
		t.Fatalf("Has(%v, %d) = %v; want %v", l, n, got, want)
	}
}

func wantCovers(t *testing.T, l []api.Range, r api.Range, want bool) {
	t.Helper()
	if got := Covers(l, r); got != want {
		t.Fatalf("Covers(%v, %v) = %v; want %v", l, r, got, want)
	}
}

func wantSame(t *testing.T, a, b []api.Range, want bool) {
	t.Helper()
	if got := Same(a, b); got != want {
		t.Fatalf("Same(%v, %v) = %v; want %v", a, b, got, want)
	}
	if got := Same(b, a); got != want {
		t.Fatalf("Same(%v, %v) = %v; want %v", b, a, got, want)
	}
}

// eachOrder goes through all orders of l.
func eachOrder(l []api.Range, do func([]api.Range)) {
	if len(l) < 2 {
		do(l)
		return
	}
	for i := range l {
		rest := slices.Delete(slices.Clone(l), i, i+1)
		eachOrder(rest, func(tail []api.Range) {
			do(append([]api.Range{l[i]}, tail...))
		})
	}
}

// sample is ranges, in any order, and those in order with the same numbers.
type sample struct{ l, want []api.Range }

// samples are worked out by hand.
func samples() []sample {
	return []sample{
		{nil, nil},
		{of(1, 1), of(1, 1)},
		{of(1, 9), of(1, 9)},
		{of(5, 7, 1, 2, 3, 4), of(1, 7)},
		{of(1, 2, 3, 4), of(1, 4)},
		{of(1, 2, 4, 5), of(1, 2, 4, 5)},
		{of(1, 2, 4, 5, 3, 3), of(1, 5)},
		{of(1, 1, 3, 3, 5, 5), of(1, 1, 3, 3, 5, 5)},
		{of(1, 5, 3, 8), of(1, 8)},
		{of(1, 5, 5, 8), of(1, 8)},
		{of(1, 9, 3, 4), of(1, 9)},
		{of(1, 9, 3, 4, 6, 7), of(1, 9)},
		{of(1, 9, 2, 3, 10, 12), of(1, 12)},
		{of(1, 9, 1, 4), of(1, 9)},
		{of(1, 9, 6, 9), of(1, 9)},
		{of(1, 9, 1, 9), of(1, 9)},
		{of(4, 4, 4, 4, 4, 4), of(4, 4)},
		{of(-7, -3, -2, 0, 2, 5), of(-7, 0, 2, 5)},
		{of(-1, -1, 1, 1), of(-1, -1, 1, 1)},
		{of(0, 10, 20, 30, 40, 50, 5, 45), of(0, 50)},
		{of(0, 10, 20, 30, 40, 50, 9, 21), of(0, 30, 40, 50)},
		{of(9, 8), nil},
		{of(1, 0, 0, -1, 5, -5), nil},
		{of(1, 2, 4, 3, 5, 6), of(1, 2, 5, 6)},
		{of(1, 2, 3, 2), of(1, 2)},
		{of(1, 2, 9, 0, 4, 5), of(1, 2, 4, 5)},
		{of(3, 2, 1, 2, 20, 30), of(1, 2, 20, 30)},
		{of(least, least), of(least, least)},
		{of(greatest, greatest), of(greatest, greatest)},
		{of(least, greatest), of(least, greatest)},
		{of(least, greatest, 1, 2, least, least, greatest, greatest), of(least, greatest)},
		{of(least, greatest, greatest, least), of(least, greatest)},
		{of(greatest, least), nil},
		{of(greatest, greatest-1, least+1, least), nil},
		{of(least, least, greatest, greatest), of(least, least, greatest, greatest)},
		{of(least, -1, 0, greatest), of(least, greatest)},
		{of(least, -2, 0, greatest), of(least, -2, 0, greatest)},
		{of(least, 5, -5, greatest), of(least, greatest)},
		{of(least, least, least+1, least+1), of(least, least+1)},
		{of(least, least, least+2, least+2), of(least, least, least+2, least+2)},
		{of(greatest-1, greatest-1, greatest, greatest), of(greatest-1, greatest)},
		{of(greatest-2, greatest-2, greatest, greatest), of(greatest-2, greatest-2, greatest, greatest)},
		{of(5, greatest, greatest, greatest, 7, 7), of(5, greatest)},
		{of(5, greatest, least, 3), of(least, 3, 5, greatest)},
	}
}

// P4.1: Norm of each sample, in every order.
func TestNormInEveryOrder(t *testing.T) {
	for _, s := range samples() {
		eachOrder(s.l, func(l []api.Range) {
			wantNorm(t, l, s.want)
		})
	}
}

// P4.1: what is in order is so, and stays as it is.
func TestWhatIsInOrderIsRight(t *testing.T) {
	for _, s := range samples() {
		wantRight(t, s.want, true)
		wantNorm(t, s.want, s.want)
	}
	wantRight(t, []api.Range{}, true)
}

// P4.1: Right refuses ranges without a number, that touch, overlap, or stand in another order.
func TestRightRefuses(t *testing.T) {
	wrong := [][]api.Range{
		of(1, 0), of(9, 0), of(greatest, least), of(greatest, greatest-1), of(least+1, least), of(1, -1),
		of(1, 2, 4, 3), of(4, 3, 6, 7), of(1, 2, 5, 4, 8, 9), of(1, 0, 1, 0), of(1, 2, 9, least), of(greatest, 0, 2, 3),
		of(1, 2, 3, 4), of(1, 2, 2, 4), of(1, 5, 3, 8), of(1, 9, 3, 4), of(1, 9, 1, 9), of(4, 4, 4, 4), of(4, 4, 5, 5), of(1, 5, 1, 9),
		of(4, 5, 1, 2), of(4, 4, 2, 2), of(1, 2, 7, 8, 4, 5), of(7, 8, 4, 5, 1, 2), of(1, 2, 4, 5, 6, 7), of(1, 2, 3, 4, 6, 7),
		of(least, greatest, least, greatest), of(least, greatest, 1, 2), of(1, greatest, least, -1), of(least, -1, 0, greatest),
		of(greatest, greatest, least, least), of(greatest, greatest, greatest, greatest), of(least, least, least, least),
		of(least, least, least+1, least+1), of(greatest-1, greatest-1, greatest, greatest), of(5, greatest, greatest, greatest),
		of(least, least, 5, greatest, least, least), of(1, 2, 5, greatest, 4, 4), of(0, greatest, least+1, least+5),
	}
	for _, l := range wrong {
		wantRight(t, l, false)
	}
}

// P4.1: Has takes both ends of each range, in every order, and no number beside.
func TestHasTakesBothEnds(t *testing.T) {
	eachOrder(of(1, 3, 6, 6, 20, 30, 9, 8, 2, 4), func(l []api.Range) {
		for n := -2; n < 40; n++ {
			wantHas(t, l, n, n >= 1 && n <= 4 || n == 6 || n >= 20 && n <= 30)
		}
		wantHas(t, l, least, false)
		wantHas(t, l, greatest, false)
	})
	wantHas(t, of(-5, -3), -4, true)
	wantHas(t, of(-5, -3), 4, false)
}

// P4.1: Has of no ranges, and of such that have no number.
func TestHasOfNothing(t *testing.T) {
	for _, l := range [][]api.Range{nil, {}, of(1, 0), of(greatest, least), of(5, -5, 2, 1)} {
		for _, n := range []int{least, -5, -1, 0, 1, 2, 5, greatest} {
			wantHas(t, l, n, false)
		}
	}
}

// P4.1: Has at the ends of the numbers' type.
func TestHasAtTheEnds(t *testing.T) {
	for _, n := range []int{least, least + 1, -1, 0, 1, greatest - 1, greatest} {
		wantHas(t, of(least, greatest), n, true)
		wantHas(t, of(least, least), n, n == least)
		wantHas(t, of(greatest, greatest), n, n == greatest)
		wantHas(t, of(least+1, greatest-1), n, n != least && n != greatest)
		wantHas(t, of(5, greatest, least, -5), n, n < -1 || n > 1)
	}
}

// P4.1: Covers where one range has all numbers, or more of them do together, in every order.
func TestCoversTogether(t *testing.T) {
	eachOrder(of(1, 3, 4, 6, 5, 9, 11, 12), func(l []api.Range) {
		for low := -1; low < 15; low++ {
			for high := low; high < 15; high++ {
				wantCovers(t, l, api.Range{Low: low, High: high}, low >= 1 && high <= 9 || low >= 11 && high <= 12)
			}
		}
		wantCovers(t, l, api.Range{Low: 1, High: greatest}, false)
		wantCovers(t, l, api.Range{Low: least, High: 9}, false)
		wantCovers(t, l, api.Range{Low: least, High: greatest}, false)
	})
}

// P4.1: a range without a number is covered by any ranges.
func TestCoversWhatHasNoNumber(t *testing.T) {
	for _, r := range of(1, 0, 9, 3, greatest, least, greatest, greatest-1, least+1, least, 0, -1) {
		for _, l := range [][]api.Range{nil, {}, of(1, 2), of(100, 200), of(5, 4), of(least, greatest)} {
			wantCovers(t, l, r, true)
		}
	}
}

// P4.1: what has a number isn't covered by no ranges, or by such that have none.
func TestCoversOfNothing(t *testing.T) {
	for _, r := range of(0, 0, 1, 2, least, least, greatest, greatest, least, greatest) {
		for _, l := range [][]api.Range{nil, {}, of(1, 0), of(greatest, least), of(3, 1, 2, 0)} {
			wantCovers(t, l, r, false)
		}
	}
}

// P4.1: Covers at the ends of the numbers' type.
func TestCoversAtTheEnds(t *testing.T) {
	all := api.Range{Low: least, High: greatest}
	wantCovers(t, of(least, greatest), all, true)
	wantCovers(t, of(0, greatest, least, -1), all, true)
	wantCovers(t, of(1, greatest, least, -1), all, false)
	wantCovers(t, of(least+1, greatest), all, false)
	wantCovers(t, of(least, greatest-1), all, false)
	wantCovers(t, of(least, greatest-1, greatest, greatest), all, true)
	wantCovers(t, of(least+1, greatest, least, least), all, true)
	wantCovers(t, of(least, least, greatest, greatest), all, false)
	wantCovers(t, of(greatest, greatest), api.Range{Low: greatest, High: greatest}, true)
	wantCovers(t, of(least, least), api.Range{Low: least, High: least}, true)
	wantCovers(t, of(greatest, greatest), api.Range{Low: greatest - 1, High: greatest}, false)
	wantCovers(t, of(least, least), api.Range{Low: least, High: least + 1}, false)
	wantCovers(t, of(greatest, greatest), api.Range{Low: least, High: least}, false)
	wantCovers(t, of(least, least), api.Range{Low: greatest, High: greatest}, false)
}

// P4.1: Same goes by the ranges, one by one, not by their numbers.
func TestSameGoesOneByOne(t *testing.T) {
	all := [][]api.Range{
		nil, of(0, 0), of(1, 2), of(1, 3), of(0, 2), of(2, 1), of(4, 3), of(1, 2, 4, 5), of(4, 5, 1, 2), of(1, 2, 4, 6), of(1, 2, 3, 5), of(1, 1, 2, 2),
		of(1, 2, 1, 2), of(1, 2, 4, 5, 7, 8), of(1, 2, 7, 8, 4, 5), of(1, 2, 2, 1), of(1, 2, 4, 3), of(2, 1, 1, 2), of(0, 0, 0, 0),
		of(least, greatest), of(greatest, least), of(least, least), of(greatest, greatest), of(least, greatest-1), of(least+1, greatest),
	}
	for i, a := range all {
		for j, b := range all {
			wantSame(t, a, b, i == j)
			wantSame(t, a, slices.Clone(b), i == j)
		}
	}
}

// P4.1: Same of lists that hold nothing, be they nil or empty; and with spare room behind that differs.
func TestSameOfEmptyLists(t *testing.T) {
	wantSame(t, nil, []api.Range{}, true)
	wantSame(t, []api.Range{}, []api.Range{}, true)
	room := of(1, 2, 4, 5)
	wantSame(t, room[:1], of(1, 2), true)
	wantSame(t, room[:0], nil, true)
}

// A line is all numbers, from the least to the greatest, in pieces: ranges whose ends are pieces' ends have a piece whole, or nothing of it.
type line []api.Range

// lineOf cuts the numbers into single ones and what lies between them.
func lineOf(singles ...int) line {
	var l line
	next := least
	for _, n := range singles {
		if n > next {
			l = append(l, api.Range{Low: next, High: n - 1})
		}
		l = append(l, api.Range{Low: n, High: n})
		next = n + 1
	}
	if len(singles) == 0 || singles[len(singles)-1] != greatest {
		l = append(l, api.Range{Low: next, High: greatest})
	}
	return l
}

// lines have single numbers at the ends of the type, and within it.
func lines() []line {
	return []line{
		lineOf(least, least+1, least+2),
		lineOf(-1, 0, 1),
		lineOf(greatest-2, greatest-1, greatest),
		lineOf(least, 0, greatest),
	}
}

// choices answers all ranges that have whole pieces, and some that have no number.
func (l line) choices() []api.Range {
	var all []api.Range
	for i := range l {
		for j := range l {
			if i <= j {
				all = append(all, api.Range{Low: l[i].Low, High: l[j].High})
			} else if j == 0 || i == j+1 {
				all = append(all, api.Range{Low: l[i].Low, High: l[j].High})
			}
		}
	}
	return all
}

// pieces answers which pieces a range has, a bit each.
func (l line) pieces(r api.Range) int {
	bits := 0
	for i, p := range l {
		if r.Low <= p.Low && p.High <= r.High {
			bits |= 1 << i
		}
	}
	return bits
}

// inOrder answers the ranges of pieces: where a piece follows one that is had, its numbers go on with that one's.
func (l line) inOrder(bits int) []api.Range {
	var out []api.Range
	for i, p := range l {
		switch {
		case bits>>i&1 == 0:
		case i > 0 && bits>>(i-1)&1 == 1:
			out[len(out)-1].High = p.High
		default:
			out = append(out, p)
		}
	}
	return out
}

// eachList goes through all lists of up to three ranges of a line, in every order, and tells their pieces.
func (l line) eachList(do func(list []api.Range, bits int)) {
	all := l.choices()
	do(nil, 0)
	for _, a := range all {
		do([]api.Range{a}, l.pieces(a))
		for _, b := range all {
			do([]api.Range{a, b}, l.pieces(a)|l.pieces(b))
			for _, c := range all {
				do([]api.Range{a, b, c}, l.pieces(a)|l.pieces(b)|l.pieces(c))
			}
		}
	}
}

// farApart works out by numbers without an end whether the ranges are in order.
func farApart(l []api.Range) bool {
	for i, r := range l {
		if r.Low > r.High {
			return false
		}
		if i == 0 {
			continue
		}
		gap := new(big.Int).Sub(big.NewInt(int64(r.Low)), big.NewInt(int64(l[i-1].High)))
		if gap.Cmp(big.NewInt(2)) < 0 {
			return false
		}
	}
	return true
}

// P4.1 and P4.2: all lists of few ranges. There is one way to write their numbers in order, and Norm finds it.
func TestAllShortLists(t *testing.T) {
	for _, l := range lines() {
		asked := l.choices()
		l.eachList(func(list []api.Range, bits int) {
			want := l.inOrder(bits)
			wantNorm(t, list, want)
			wantRight(t, list, farApart(list))
			wantSame(t, list, want, farApart(list))
			for i, p := range l {
				wantHas(t, list, p.Low, bits>>i&1 == 1)
				wantHas(t, list, p.High, bits>>i&1 == 1)
			}
			for _, r := range asked {
				wantCovers(t, list, r, l.pieces(r)&^bits == 0)
			}
		})
	}
}

// P4.2: what Norm answers is in order, and has each number that l has, and no other one; two lists of the same numbers come out the same.
func TestOneWayToWriteNumbers(t *testing.T) {
	rule := rand.New(rand.NewSource(4))
	for range 3000 {
		var l []api.Range
		for range rule.Intn(12) {
			low := rule.Intn(60) - 30
			l = append(l, api.Range{Low: low, High: low + rule.Intn(9) - 2})
		}
		norm := Norm(l)
		wantRight(t, norm, true)
		var single []api.Range
		for n := -35; n < 45; n++ {
			had := slices.ContainsFunc(l, func(r api.Range) bool { return r.Low <= n && n <= r.High })
			wantHas(t, l, n, had)
			wantHas(t, norm, n, had)
			wantCovers(t, l, api.Range{Low: n, High: n}, had)
			if had {
				single = append(single, api.Range{Low: n, High: n})
			}
		}
		rule.Shuffle(len(single), func(i, j int) { single[i], single[j] = single[j], single[i] })
		wantNorm(t, single, norm)
		wantSame(t, Norm(single), norm, true)
		for _, r := range norm {
			wantCovers(t, l, r, true)
			wantCovers(t, l, api.Range{Low: r.Low - 1, High: r.High}, false)
			wantCovers(t, l, api.Range{Low: r.Low, High: r.High + 1}, false)
		}
	}
}

// P4.1: a long list, backwards, whose ranges touch by twos.
func TestLongLists(t *testing.T) {
	const count = 200000
	var l, want []api.Range
	for n := count - 1; n >= 0; n-- {
		l = append(l, api.Range{Low: 5*n + 2, High: 5*n + 3}, api.Range{Low: 5 * n, High: 5*n + 1})
	}
	for n := range count {
		want = append(want, api.Range{Low: 5 * n, High: 5*n + 3})
	}
	wantNorm(t, l, want)
	if !Right(want) || Right(l) || !Has(l, 0) || Has(l, 4) || !Covers(l, want[count-1]) || Covers(l, api.Range{Low: 0, High: 5}) || Same(l, want) {
		t.Fatal("a long list is answered otherwise than a short one")
	}
}

// Rule 5: lists that are handed in stay as they are, their spare room too.
func TestListsStay(t *testing.T) {
	for _, s := range samples() {
		room := append(slices.Clone(s.l), of(70, 71, 60, 61)...)
		before := slices.Clone(room)
		l := room[:len(s.l)]
		Right(l)
		Norm(l)
		Has(l, 3)
		Covers(l, api.Range{Low: 2, High: 3})
		Same(l, room)
		if !slices.Equal(room, before) {
			t.Fatalf("%v became %v", before, room)
		}
	}
}

// Rule 5: what Norm answers shares nothing with its list.
func TestNormAnswersAListOfItsOwn(t *testing.T) {
	for _, s := range samples() {
		l := append(slices.Clone(s.l), of(500, 501)...)
		before, norm := slices.Clone(l), Norm(l)
		want := slices.Clone(norm)
		clear(norm[:cap(norm)])
		if !slices.Equal(l, before) {
			t.Fatalf("an answer that is changed made %v of %v", l, before)
		}
		norm = Norm(l)
		clear(l)
		if !slices.Equal(norm, want) {
			t.Fatalf("a list that is changed made the answer %v of %v", norm, want)
		}
	}
}
