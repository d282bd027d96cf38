package ident

import (
	"math"
	"math/rand"
	"slices"
	"testing"
)

const last = 65535

// outside are numbers that no transaction may have, among them such whose remainder would be one.
var outside = []int{
	-1, -2, -7, -65535, -65536, -65537, -65529, -131072,
	65536, 65537, 65543, 131071, 131072, 131079,
	1<<31 - 1, 1 << 31, 1<<32 - 1, 1 << 32, 1<<32 + 7, -1 << 31, -1 << 32, -1<<32 + 7,
	1 << 53, math.MaxInt, math.MaxInt - 1, math.MaxInt - last, math.MinInt, math.MinInt + 1, math.MinInt + 7, math.MinInt + last,
}

// seam are numbers about which the going round begins, its end, and some between.
var seam = []int{0, 1, 2, 3, 7, 8, 255, 256, 32767, 32768, 65279, 65280, 65532, 65533, 65534, 65535}

// The first wrong answer ends a test: the loops over many numbers would tell thousands of them.
func wantNext(t *testing.T, used []int, from int, want int) {
	t.Helper()
	if got, ok := Next(used, from); got != want || !ok {
		t.Fatalf("Next(%v, %d) = %d, %v; want %d, true", some(used), from, got, ok, want)
	}
}

func wantNone(t *testing.T, used []int, from int) {
	t.Helper()
	if got, ok := Next(used, from); got != 0 || ok {
		t.Fatalf("Next(%v, %d) = %d, %v; want 0, false", some(used), from, got, ok)
	}
}

func wantAfter(t *testing.T, id int, want int) {
	t.Helper()
	if got := After(id); got != want {
		t.Fatalf("After(%d) = %d; want %d", id, got, want)
	}
}

// some answers the first of l, so that a failure may be read.
func some(l []int) []int {
	return l[:min(len(l), 80)]
}

// run answers n numbers from from on, round by 0.
func run(from, n int) []int {
	var l []int
	for range n {
		l = append(l, from)
		if from++; from > last {
			from = 0
		}
	}
	return l
}

func set(l []int) map[int]bool {
	m := map[int]bool{}
	for _, n := range l {
		m[n] = true
	}
	return m
}

// without answers all numbers but those of l.
func without(l ...int) []int {
	missing := set(l)
	return slices.DeleteFunc(run(0, last+1), func(n int) bool { return missing[n] })
}

// slowNext goes up to 65535, and then up from 0: by no remainder, so that it shares nothing with Next.
func slowNext(used []int, from int) (int, bool) {
	is := set(used)
	if from < 0 || from > last {
		return 0, false
	}
	for n := from; n <= last; n++ {
		if !is[n] {
			return n, true
		}
	}
	for n := 0; n < from; n++ {
		if !is[n] {
			return n, true
		}
	}
	return 0, false
}

// wantSlow holds Next against slowNext.
func wantSlow(t *testing.T, used []int, from int) {
	t.Helper()
	if want, ok := slowNext(used, from); ok {
		wantNext(t, used, from, want)
	} else {
		wantNone(t, used, from)
	}
}

// P19.1: where nothing is used, it is from itself, whichever that is.
func TestNextOfNoneUsed(t *testing.T) {
	for from := range last + 1 {
		wantNext(t, nil, from, from)
		wantNext(t, []int{}, from, from)
	}
}

// P19.1: from is used, or not; what lies ahead of it, or behind a gap, doesn't count.
func TestNext(t *testing.T) {
	wantNext(t, []int{7, 8}, 7, 9)
	wantNext(t, []int{8, 7}, 7, 9)
	wantNext(t, []int{7, 8}, 8, 9)
	wantNext(t, []int{7, 8}, 6, 6)
	wantNext(t, []int{7, 8}, 9, 9)
	wantNext(t, []int{7, 8}, 0, 0)
	wantNext(t, []int{7, 8}, 65535, 65535)
	wantNext(t, []int{7, 9}, 7, 8)
	wantNext(t, []int{7, 9, 10}, 9, 11)
	wantNext(t, []int{8, 9}, 7, 7)
	wantNext(t, []int{0}, 0, 1)
	wantNext(t, []int{0}, 1, 1)
	wantNext(t, []int{5, 3, 4, 0, 1}, 3, 6)
	wantNext(t, []int{5, 3, 4, 0, 1}, 0, 2)
	wantNext(t, []int{5, 3, 4, 0, 1, 2}, 0, 6)
}

// P19.1: behind 65535 comes 0, which may be used too.
func TestNextGoesRound(t *testing.T) {
	wantNext(t, []int{65535}, 65535, 0)
	wantNext(t, []int{65535}, 65534, 65534)
	wantNext(t, []int{65534}, 65534, 65535)
	wantNext(t, []int{65534, 65535}, 65534, 0)
	wantNext(t, []int{65535, 0}, 65535, 1)
	wantNext(t, []int{65534, 65535, 0}, 65534, 1)
	wantNext(t, []int{0, 65535, 65534}, 65534, 1)
	wantNext(t, []int{65534, 65535, 1}, 65534, 0)
	wantNext(t, []int{65534, 0, 1}, 65534, 65535)
	wantNext(t, []int{65535, 0, 1, 2, 3}, 65535, 4)
	wantNext(t, []int{0, 1, 2}, 65535, 65535)
}

// P19.1: runs of all lengths up to 64, which is as many as may wait, from all about the seam.
func TestRuns(t *testing.T) {
	for _, from := range seam {
		for n := range 65 {
			used := run(from, n)
			end := (from + n) % 65536
			wantNext(t, used, from, end)
			wantNext(t, append(used, run(end+1, 3)...), from, end)
			slices.Reverse(used)
			wantNext(t, used, from, end)
		}
	}
}

// P19.1: long runs, up to all but one, and a run of all.
func TestLongRuns(t *testing.T) {
	for _, n := range []int{255, 256, 257, 1000, 32767, 32768, 65533, 65534, 65535} {
		for _, from := range seam {
			wantNext(t, run(from, n), from, (from+n)%65536)
		}
	}
	for _, from := range seam {
		wantNone(t, run(from, 65536), from)
	}
}

// P19.1: all are used, in whichever order they stand, and whatever else stands with them.
func TestAllUsed(t *testing.T) {
	all := run(0, last+1)
	back := slices.Clone(all)
	slices.Reverse(back)
	mixed := slices.Clone(all)
	rand.New(rand.NewSource(19)).Shuffle(len(mixed), func(i, k int) { mixed[i], mixed[k] = mixed[k], mixed[i] })
	for _, from := range seam {
		wantNone(t, all, from)
		wantNone(t, back, from)
		wantNone(t, mixed, from)
		wantNone(t, slices.Concat(all, back), from)
		wantNone(t, slices.Concat(outside, mixed, outside), from)
	}
}

// P19.1: the only number that isn't used is found from everywhere.
func TestAllButOne(t *testing.T) {
	for _, missing := range seam {
		used := without(missing)
		for _, from := range append(seam, missing, (missing+1)%65536, (missing+last)%65536) {
			wantNext(t, used, from, missing)
			wantNext(t, slices.Concat(used, used[:5], outside), from, missing)
		}
	}
}

// P19.1: of two that aren't used it is the first one from from on.
func TestAllButTwo(t *testing.T) {
	used := without(100, 65000)
	wantNext(t, used, 0, 100)
	wantNext(t, used, 100, 100)
	wantNext(t, used, 101, 65000)
	wantNext(t, used, 65000, 65000)
	wantNext(t, used, 65001, 100)
	wantNext(t, used, 65535, 100)
	used = without(0, 65535)
	wantNext(t, used, 0, 0)
	wantNext(t, used, 1, 65535)
	wantNext(t, used, 65534, 65535)
	wantNext(t, used, 65535, 65535)
}

// P19.1: from isn't from 0 to 65535, whether any, all or it itself is used.
func TestFromOutside(t *testing.T) {
	all := run(0, last+1)
	for _, from := range outside {
		wantNone(t, nil, from)
		wantNone(t, []int{}, from)
		wantNone(t, []int{7, 8}, from)
		wantNone(t, []int{from}, from)
		wantNone(t, outside, from)
		wantNone(t, all, from)
	}
}

// Rule 7: numbers that no transaction has may be among used; they take no other number's place.
func TestUsedOutside(t *testing.T) {
	for _, from := range seam {
		wantNext(t, outside, from, from)
		for _, n := range outside {
			wantNext(t, []int{n}, from, from)
			wantNext(t, []int{n, from, n}, from, (from+1)%65536)
			wantNext(t, []int{from, (from + 1) % 65536, n}, from, (from+2)%65536)
		}
	}
	// All of them would be used, if remainders were taken of them.
	for from := range last + 1 {
		wantNext(t, []int{from + 65536, from - 65536, from + 131072, from + 1<<32}, from, from)
	}
	var high, low []int
	for n := range last + 1 {
		high, low = append(high, n+65536), append(low, n-65536)
	}
	for _, from := range seam {
		wantNext(t, high, from, from)
		wantNext(t, low, from, from)
		wantNext(t, slices.Concat(high, low, []int{from}), from, (from+1)%65536)
	}
}

// P19.1: a number that stands there many times is used, and no other one.
func TestManyTimes(t *testing.T) {
	wantNext(t, []int{7, 7}, 7, 8)
	wantNext(t, []int{7, 7, 7, 8, 8, 7}, 7, 9)
	wantNext(t, slices.Repeat([]int{7}, 65535), 7, 8)
	wantNext(t, slices.Repeat([]int{7}, 65536), 7, 8)
	wantNext(t, slices.Repeat([]int{7}, 65537), 7, 8)
	wantNext(t, slices.Repeat([]int{65535}, 200000), 65535, 0)
	wantNext(t, slices.Repeat([]int{9, 7, 65535, 0}, 50000), 65535, 1)
	wantNext(t, slices.Repeat([]int{9, 7, 65535, 0}, 50000), 7, 8)
	wantNext(t, slices.Repeat(run(65000, 1000), 150), 65000, 464)
}

// P19.1: all lists of some of ten numbers on both sides of the seam, from each of these.
func TestAllSmallSets(t *testing.T) {
	numbers := run(65531, 10)
	for which := range 1 << 10 {
		var used []int
		for i, n := range numbers {
			if which>>i&1 == 1 {
				used = append(used, n)
			}
		}
		for _, from := range numbers {
			wantSlow(t, used, from)
		}
	}
}

// P19.1: lists by chance, of few and of many numbers, near each other and far, some of them outside.
func TestByChance(t *testing.T) {
	chance := rand.New(rand.NewSource(191))
	for range 20000 {
		from, wide := chance.Intn(last+1), 1+chance.Intn(60)
		if chance.Intn(3) == 0 {
			from = seam[chance.Intn(len(seam))]
		}
		used := make([]int, chance.Intn(80))
		for i := range used {
			used[i] = (from + chance.Intn(wide)) % 65536
			if chance.Intn(20) == 0 {
				used[i] = outside[chance.Intn(len(outside))]
			}
		}
		wantSlow(t, used, from)
	}
	for range 30 {
		used := run(0, last+1)
		chance.Shuffle(len(used), func(i, k int) { used[i], used[k] = used[k], used[i] })
		used = used[chance.Intn(4):]
		for range 5 {
			wantSlow(t, used, chance.Intn(last+1))
		}
	}
}

// wantFirst holds what is told against the promise itself: it isn't used, and all between from and it are.
func wantFirst(t *testing.T, used []int, from int) {
	t.Helper()
	got, ok := Next(used, from)
	if !ok || got < 0 || got > last {
		t.Fatalf("Next(%v, %d) = %d, %v", some(used), from, got, ok)
	}
	if slices.Contains(used, got) {
		t.Fatalf("Next(%v, %d) = %d, which is used", some(used), from, got)
	}
	for n := from; n != got; n = (n + 1) % 65536 {
		if !slices.Contains(used, n) {
			t.Fatalf("Next(%v, %d) = %d, and %d between isn't used", some(used), from, got, n)
		}
	}
}

// P19.2: of lists by chance that are no longer than there may wait requests.
func TestWhatIsToldIsFree(t *testing.T) {
	chance := rand.New(rand.NewSource(192))
	for range 5000 {
		from := chance.Intn(last + 1)
		used := run(from, chance.Intn(40))
		for range chance.Intn(20) {
			used = append(used, (from+chance.Intn(64))%65536)
		}
		chance.Shuffle(len(used), func(i, k int) { used[i], used[k] = used[k], used[i] })
		wantFirst(t, used, from)
	}
}

// P19.2: what a device is told: from the one behind the last on, each number that is given isn't had by anything that waits, through more than one round.
func TestNumbersAsTheyAreGiven(t *testing.T) {
	chance := rand.New(rand.NewSource(193))
	var waits []int
	next := 0
	for range 150000 {
		if len(waits) == 64 || len(waits) > 0 && chance.Intn(3) == 0 {
			k := chance.Intn(len(waits))
			// The oldest ones wait on, so that the round comes to them again.
			if len(waits) > 10 {
				k = 10 + chance.Intn(len(waits)-10)
			}
			waits = slices.Delete(waits, k, k+1)
		}
		wantFirst(t, waits, next)
		id, _ := Next(waits, next)
		waits, next = append(waits, id), After(id)
	}
}

// P19.1: After of all numbers, and of what is none.
func TestAfter(t *testing.T) {
	wantAfter(t, 0, 1)
	wantAfter(t, 1, 2)
	wantAfter(t, 255, 256)
	wantAfter(t, 32767, 32768)
	wantAfter(t, 65534, 65535)
	wantAfter(t, 65535, 0)
	for id := range last {
		wantAfter(t, id, id+1)
	}
	for _, id := range outside {
		wantAfter(t, id, 0)
	}
	for id := last + 1; id < 3*(last+1); id++ {
		wantAfter(t, id, 0)
		wantAfter(t, -id, 0)
	}
}

// P19.1: from any number After comes to each other one once, and back.
func TestAfterGoesRound(t *testing.T) {
	for _, from := range seam {
		is, id := map[int]bool{}, from
		for range last + 1 {
			is[id] = true
			id = After(id)
		}
		if id != from || len(is) != last+1 {
			t.Fatalf("from %d, 65536 times one more: %d, by %d numbers", from, id, len(is))
		}
	}
}

// P19.1: where just from is used, the next one is the one behind it.
func TestNextOfOneIsAfter(t *testing.T) {
	for id := range last + 1 {
		wantNext(t, []int{id}, id, After(id))
	}
}

// Rule 5: what is handed in is not changed, its spare room neither.
func TestNothingIsChanged(t *testing.T) {
	for _, from := range append([]int{-1, 65536}, seam...) {
		whole := []int{9, 65535, 7, -1, 65534, 0, 7, 65536, 11, 12, 13}
		before := slices.Clone(whole)
		Next(whole[:8], from)
		if !slices.Equal(whole, before) {
			t.Fatalf("behind Next from %d: %v; want %v", from, whole, before)
		}
	}
	all := without()
	Next(all, 77)
	if !slices.Equal(all, without()) {
		t.Fatal("Next changed the list of all numbers")
	}
}

// Rule 6: a call hangs on its arguments alone: other calls between don't count, and the list isn't kept.
func TestNothingIsKept(t *testing.T) {
	used := []int{7, 8}
	for range 3 {
		wantNext(t, used, 7, 9)
		wantNext(t, used, 7, 9)
		used[0] = 9
		wantNext(t, used, 7, 7)
		wantNext(t, used, 8, 10)
		wantNone(t, used, -1)
		wantNone(t, without(), 7)
		wantAfter(t, 65535, 0)
		used[0] = 7
		wantNext(t, nil, 7, 7)
	}
}
