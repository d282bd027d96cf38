package bucket

import (
	"math"
	"math/rand"
	"testing"

	"gatewarden/api"
)

// most is the greatest number that a rate may have.
const most = 1 << 20

// ends are numbers that a rate may have: the least and the greatest ones, and some about powers of two.
var ends = []int{1, 2, 3, 5, 7, 10, 255, 256, 1000, 4095, 32767, 32768, 46341, 65535, 65536, 65537, 1<<19 - 1, 1 << 19, most - 1, most}

// wrong are numbers that no rate may have.
var wrong = []int{0, -1, -2, -most, most + 1, 1 << 31, 1 << 32, 1 << 40, 1 << 53, math.MaxInt - 1, math.MaxInt, math.MinInt, math.MinInt + 1}

func rate(num, per, burst int) api.Rate {
	return api.Rate{Num: num, Per: per, Burst: burst}
}

// The first wrong answer ends a test: the loops over many rates would tell thousands of them.
func wantFull(t *testing.T, r api.Rate, want int) {
	t.Helper()
	if got := Full(r); got != want {
		t.Fatalf("Full(%v) = %d; want %d", r, got, want)
	}
}

func wantTick(t *testing.T, level int, r api.Rate, want int) {
	t.Helper()
	if got := Tick(level, r); got != want {
		t.Fatalf("Tick(%d, %v) = %d; want %d", level, r, got, want)
	}
}

func wantTake(t *testing.T, level int, r api.Rate, want int, good bool) {
	t.Helper()
	if got, ok := Take(level, r); got != want || ok != good {
		t.Fatalf("Take(%d, %v) = %d, %v; want %d, %v", level, r, got, ok, want, good)
	}
}

// someRates answers rates whose numbers are all ends, each with each.
func someRates() []api.Rate {
	var l []api.Rate
	for _, num := range ends {
		for _, per := range ends {
			for _, burst := range ends {
				l = append(l, rate(num, per, burst))
			}
		}
	}
	return l
}

// smallRates answers all rates whose numbers are from 1 to 6.
func smallRates() []api.Rate {
	var l []api.Rate
	for num := 1; num <= 6; num++ {
		for per := 1; per <= 6; per++ {
			for burst := 1; burst <= 6; burst++ {
				l = append(l, rate(num, per, burst))
			}
		}
	}
	return l
}

// someLevels answers levels from 0 to full: the ends, and those about a use, about what a tick brings, and about where it comes to full.
func someLevels(r api.Rate) []int {
	full := r.Burst * r.Per
	var l []int
	for _, about := range []int{0, r.Per, 2 * r.Per, r.Num, full / 2, full - r.Per, full - r.Num, full} {
		for n := about - 2; n <= about+2; n++ {
			if 0 <= n && n <= full {
				l = append(l, n)
			}
		}
	}
	return l
}

// slowFull counts the level of a rule of small numbers use by use: by addition alone, so that it shares nothing with Full.
func slowFull(r api.Rate) int {
	n := 0
	for range r.Burst {
		n += r.Per
	}
	return n
}

// slowTick brings what a tick brings one by one.
func slowTick(level int, r api.Rate) int {
	for range r.Num {
		if level < slowFull(r) {
			level++
		}
	}
	return level
}

// P18.1: Full of the smallest and the greatest Burst and Per, and of others.
func TestFull(t *testing.T) {
	wantFull(t, rate(1, 1, 1), 1)
	wantFull(t, rate(1, 1, most), 1048576)
	wantFull(t, rate(1, most, 1), 1048576)
	wantFull(t, rate(1, most, most), 1099511627776)
	wantFull(t, rate(most, most, most), 1099511627776)
	wantFull(t, rate(most, 1, 1), 1)
	wantFull(t, rate(1, most-1, most), 1099510579200)
	wantFull(t, rate(1, most-1, most-1), 1099509530625)
	wantFull(t, rate(1, 2, 3), 6)
	wantFull(t, rate(5, 1000, 10), 10000)
	wantFull(t, rate(1, 65536, 65536), 4294967296)
	wantFull(t, rate(1, 65537, 65535), 4294967295)
	wantFull(t, rate(1, 46341, 46341), 2147488281)
	for _, r := range smallRates() {
		wantFull(t, r, slowFull(r))
	}
}

// P18.1: what a tick brings has no part in what is full.
func TestFullOfAnyNum(t *testing.T) {
	for _, num := range ends {
		wantFull(t, rate(num, 2, 3), 6)
		wantFull(t, rate(num, 3, 2), 6)
		wantFull(t, rate(num, most, most), 1<<40)
	}
}

// P18.1: Tick below full, up to it, beyond it, of full itself and of 0, with Num smaller and greater than Per.
func TestTick(t *testing.T) {
	less := rate(2, 5, 3) // full 15
	wantTick(t, 0, less, 2)
	wantTick(t, 1, less, 3)
	wantTick(t, 4, less, 6)
	wantTick(t, 12, less, 14)
	wantTick(t, 13, less, 15)
	wantTick(t, 14, less, 15)
	wantTick(t, 15, less, 15)
	more := rate(5, 2, 4) // full 8
	wantTick(t, 0, more, 5)
	wantTick(t, 2, more, 7)
	wantTick(t, 3, more, 8)
	wantTick(t, 4, more, 8)
	wantTick(t, 7, more, 8)
	wantTick(t, 8, more, 8)
	same := rate(3, 3, 2) // full 6
	wantTick(t, 0, same, 3)
	wantTick(t, 3, same, 6)
	wantTick(t, 4, same, 6)
	wantTick(t, 6, same, 6)
}

// P18.1: a tick that brings as much as full, and more than that.
func TestTickOfMoreThanFull(t *testing.T) {
	for _, num := range []int{6, 7, 12, 1000, most} {
		for level := range 7 {
			wantTick(t, level, rate(num, 2, 3), 6)
			wantTick(t, level, rate(num, 6, 1), 6)
			wantTick(t, level, rate(num, 1, 6), 6)
		}
	}
	wantTick(t, 0, rate(most, 1, 1), 1)
	wantTick(t, 1, rate(most, 1, 1), 1)
}

// P18.1: Tick and Take of all levels of all rates of small numbers.
func TestAllSmallRates(t *testing.T) {
	for _, r := range smallRates() {
		for level := range slowFull(r) + 1 {
			wantTick(t, level, r, slowTick(level, r))
			if level < r.Per {
				wantTake(t, level, r, level, false)
			} else {
				wantTake(t, level, r, level-r.Per, true)
			}
		}
	}
}

// P18.1: Take of less than Per, of Per exactly, of more, of 0, and of full: both of what it answers.
func TestTake(t *testing.T) {
	r := rate(2, 5, 3)
	wantTake(t, 0, r, 0, false)
	wantTake(t, 1, r, 1, false)
	wantTake(t, 4, r, 4, false)
	wantTake(t, 5, r, 0, true)
	wantTake(t, 6, r, 1, true)
	wantTake(t, 9, r, 4, true)
	wantTake(t, 10, r, 5, true)
	wantTake(t, 15, r, 10, true)
	wantTake(t, 0, rate(1, 1, 1), 0, false)
	wantTake(t, 1, rate(1, 1, 1), 0, true)
	wantTake(t, most-1, rate(1, most, 1), most-1, false)
	wantTake(t, most, rate(1, most, 1), 0, true)
}

// P18.1: a use takes Per, whatever a tick brings and however many there are at once.
func TestTakeGoesByPer(t *testing.T) {
	for _, num := range ends {
		for _, burst := range ends {
			r := rate(num, 7, burst)
			wantTake(t, 0, r, 0, false)
			wantTake(t, 6, r, 6, false)
			wantTake(t, 7, r, 0, true)
			wantTake(t, 7*burst, r, 7*burst-7, true)
		}
	}
}

// P18.1: the greatest numbers of each of Num, Per and Burst.
func TestGreatest(t *testing.T) {
	all := rate(most, most, most)
	wantTick(t, 0, all, 1<<20)
	wantTick(t, 1<<40-1<<20-1, all, 1<<40-1)
	wantTick(t, 1<<40-1<<20, all, 1<<40)
	wantTick(t, 1<<40-1<<20+1, all, 1<<40)
	wantTick(t, 1<<40-1, all, 1<<40)
	wantTick(t, 1<<40, all, 1<<40)
	wantTake(t, 1<<20-1, all, 1<<20-1, false)
	wantTake(t, 1<<20, all, 0, true)
	wantTake(t, 1<<40, all, 1<<40-1<<20, true)
	wantTake(t, 1<<32, all, 1<<32-1<<20, true)
	slow := rate(1, most, most)
	wantTick(t, 0, slow, 1)
	wantTick(t, 1<<31-1, slow, 1<<31)
	wantTick(t, 1<<32-1, slow, 1<<32)
	wantTick(t, 1<<40-1, slow, 1<<40)
	wantTick(t, 1<<40, slow, 1<<40)
	quick := rate(most, 1, most)
	wantTick(t, 0, quick, most)
	wantTick(t, 1, quick, most)
	wantTake(t, most, quick, most-1, true)
	wantTake(t, 1, quick, 0, true)
	wantTake(t, 0, quick, 0, false)
	one := rate(most, most, 1)
	wantTick(t, 0, one, most)
	wantTake(t, most, one, 0, true)
	wantTake(t, most-1, one, most-1, false)
}

// P18.1: levels about each edge, of rates of all ends.
func TestEdges(t *testing.T) {
	for _, r := range someRates() {
		full := r.Burst * r.Per
		wantFull(t, r, full)
		for _, level := range someLevels(r) {
			// What is missing up to full tells what a tick brings.
			brings := r.Num
			if missing := full - level; missing < brings {
				brings = missing
			}
			wantTick(t, level, r, level+brings)
			if level >= r.Per {
				wantTake(t, level, r, level-r.Per, true)
			} else {
				wantTake(t, level, r, level, false)
			}
		}
	}
}

// The chapter's example: three uses at once, then one every other tick.
func TestExample(t *testing.T) {
	r := rate(1, 2, 3)
	wantFull(t, r, 6)
	wantTake(t, 6, r, 4, true)
	wantTake(t, 4, r, 2, true)
	wantTake(t, 2, r, 0, true)
	wantTake(t, 0, r, 0, false)
	level := 0
	for range 50 {
		wantTick(t, level, r, 1)
		wantTake(t, 1, r, 1, false)
		wantTick(t, 1, r, 2)
		wantTake(t, 2, r, 0, true)
		level, _ = Take(2, r)
		wantTake(t, level, r, 0, false)
	}
}

// The document's seventh example: of two tries at one tick the second one has no use left, and two ticks later there is one.
func TestOneAtOnce(t *testing.T) {
	r := rate(1, 2, 1)
	level, first := Take(Full(r), r)
	level, second := Take(level, r)
	if !first || second || level != 0 {
		t.Fatalf("two tries at one tick: %v, %v, and the level %d", first, second, level)
	}
	level = Tick(Tick(level, r), r)
	wantTake(t, level, r, 0, true)
}

// step is one of a run: a tick, or a try of a use and whether there was one.
type step struct{ tick, used bool }

// run begins at full, and does as is told; it fails where a level isn't from 0 to full.
func run(t *testing.T, r api.Rate, ticks []bool) ([]step, int) {
	t.Helper()
	level, steps := Full(r), make([]step, 0, len(ticks))
	for _, tick := range ticks {
		one := step{tick: tick}
		if tick {
			level = Tick(level, r)
		} else {
			level, one.used = Take(level, r)
		}
		if level < 0 || level > r.Burst*r.Per {
			t.Fatalf("the level %d of %v in a run of %d steps", level, r, len(ticks))
		}
		steps = append(steps, one)
	}
	return steps, level
}

// wantFew holds each part of a run against what its ticks bring: at most Burst uses, and n times Num divided by Per.
func wantFew(t *testing.T, r api.Rate, steps []step) {
	t.Helper()
	for from := range steps {
		n, uses := 0, 0
		for to, one := range steps[from:] {
			if one.tick {
				n++
			}
			if one.used {
				uses++
			}
			// Times Per on both sides: nothing is rounded.
			if uses*r.Per > r.Burst*r.Per+n*r.Num {
				t.Fatalf("%v: %d uses in %d ticks, from step %d to %d", r, uses, n, from, from+to)
			}
		}
	}
}

// wantFewLong is wantFew for runs that are too long to take all parts of: what has been used and not been brought is held against its least so far.
func wantFewLong(t *testing.T, r api.Rate, steps []step) {
	t.Helper()
	owed, least := 0, 0
	for at, one := range steps {
		if one.tick {
			owed -= r.Num
		}
		if one.used {
			owed += r.Per
		}
		least = min(least, owed)
		if owed-least > r.Burst*r.Per {
			t.Fatalf("%v: too many uses up to step %d", r, at)
		}
	}
}

// P18.2: all runs of up to ten steps.
func TestAllShortRuns(t *testing.T) {
	for _, r := range []api.Rate{rate(1, 1, 1), rate(1, 2, 1), rate(1, 2, 3), rate(2, 3, 2), rate(3, 2, 2), rate(5, 2, 1), rate(1, 6, 1), rate(3, 3, 4), rate(most, 1, 2), rate(1, most, 2)} {
		for which := range 1 << 10 {
			ticks := make([]bool, 10)
			for i := range ticks {
				ticks[i] = which>>i&1 == 1
			}
			steps, _ := run(t, r, ticks)
			wantFew(t, r, steps)
		}
	}
}

// P18.2: runs by chance, with many ticks and with few.
func TestRuns(t *testing.T) {
	chance := rand.New(rand.NewSource(18))
	for _, r := range append(smallRates(), rate(5, 1000, 10), rate(999, 1000, 1), rate(1001, 1000, 2), rate(most, most, 3), rate(most-1, most, 1), rate(most, most-1, 1)) {
		for _, often := range []int{2, 5, 9} {
			ticks := make([]bool, 120)
			for i := range ticks {
				ticks[i] = chance.Intn(10) < often
			}
			steps, _ := run(t, r, ticks)
			wantFew(t, r, steps)
		}
	}
}

// P18.2: long runs, of rates of all ends.
func TestLongRuns(t *testing.T) {
	chance := rand.New(rand.NewSource(182))
	ticks := make([]bool, 400)
	for _, r := range someRates() {
		often := 1 + chance.Intn(9)
		for i := range ticks {
			ticks[i] = chance.Intn(10) < often
		}
		steps, _ := run(t, r, ticks)
		wantFewLong(t, r, steps)
	}
}

// P18.1, P18.2: who takes all that is there at each tick gets just what was brought, to the last part, where nothing goes beyond full.
func TestAllThatIsBroughtIsUsed(t *testing.T) {
	for _, r := range append(smallRates(), rate(5, 1000, 10), rate(7, 1000, 1), rate(999, 1000, 2), rate(1001, 1000, 3), rate(most-1, most, 2), rate(most, 999983, 3), rate(1, most, 1)) {
		if r.Num > (r.Burst-1)*r.Per+1 {
			continue
		}
		level, uses := Full(r), 0
		for n := range 5000 {
			for used := true; used; {
				level, used = Take(level, r)
				if used {
					uses++
				}
			}
			brought := r.Burst*r.Per + n*r.Num
			if uses != brought/r.Per || level != brought%r.Per {
				t.Fatalf("%v: %d uses behind %d ticks, and the level %d", r, uses, n, level)
			}
			level = Tick(level, r)
		}
	}
}

// P18.1: where a tick brings more than there is room for, each tick brings Burst uses, and nothing is put by.
func TestWhatGoesBeyondFullIsLost(t *testing.T) {
	for _, r := range []api.Rate{rate(6, 2, 3), rate(7, 2, 3), rate(100, 3, 4), rate(most, 1, 1), rate(most, 5, 7)} {
		level := Full(r)
		for range 20 {
			for range r.Burst {
				wantTake(t, level, r, level-r.Per, true)
				level, _ = Take(level, r)
			}
			wantTake(t, level, r, 0, false)
			for range 3 {
				level = Tick(level, r)
			}
		}
	}
}

// P18.2: at one tick there are Burst uses of full, and no more.
func TestBurst(t *testing.T) {
	for _, r := range append(smallRates(), rate(1, most, most), rate(most, most, most), rate(1, 1, most), rate(most, 1, most), rate(1, most, 1)) {
		level, uses := Full(r), 0
		for used := true; used; {
			level, used = Take(level, r)
			if used {
				uses++
			}
		}
		if uses != r.Burst || level != 0 {
			t.Fatalf("%v: %d uses of full at once, and the level %d", r, uses, level)
		}
	}
}

// wantFills holds each tick of a level on its way to full, which it reaches at the tick that it needs, not earlier, and keeps.
func wantFills(t *testing.T, level int, r api.Rate) {
	t.Helper()
	full := Full(r)
	ticks := 0
	for sum := level; sum < full; sum += r.Num {
		ticks++
	}
	for n := 1; n <= ticks; n++ {
		level = Tick(level, r)
		if (level == full) != (n == ticks) {
			t.Fatalf("%v: the level %d at tick %d of %d", r, level, n, ticks)
		}
	}
	for range 5 {
		wantTick(t, level, r, full)
		level = Tick(level, r)
	}
}

// P18.1: behind as many ticks as a level needs it is full, and stays so.
func TestFills(t *testing.T) {
	for _, r := range smallRates() {
		for level := range slowFull(r) + 1 {
			wantFills(t, level, r)
		}
	}
	for _, r := range []api.Rate{rate(5, 1000, 10), rate(7, 1000, 10), rate(most, most, most), rate(most-1, most, 1000), rate(1, most, 1), rate(most, 1, most), rate(3, 65536, 5)} {
		for _, level := range someLevels(r) {
			wantFills(t, level, r)
		}
	}
}

// Rule 6: a call hangs on its arguments alone: calls of other rates and levels between don't count.
func TestNothingIsKept(t *testing.T) {
	r, other := rate(1, 2, 3), rate(most, most, most)
	for range 3 {
		wantFull(t, r, 6)
		wantFull(t, other, 1<<40)
		wantTake(t, 6, r, 4, true)
		wantTake(t, 6, r, 4, true)
		wantTake(t, 6, other, 6, false)
		wantTick(t, 4, r, 5)
		wantTick(t, 4, r, 5)
		wantTick(t, 4, other, 4+most)
		wantTake(t, 1, r, 1, false)
		wantTake(t, 2, r, 0, true)
	}
}

// Of other rates and levels nothing is promised; still each call ends, and none panics.
func TestRatesAndLevelsThatMayNotBe(t *testing.T) {
	numbers := append([]int{1, 2, most}, wrong...)
	for _, num := range numbers {
		for _, per := range numbers {
			for _, burst := range numbers {
				r := rate(num, per, burst)
				Full(r)
				for _, level := range append([]int{6, 7}, numbers...) {
					Tick(level, r)
					Take(level, r)
				}
			}
		}
	}
}
