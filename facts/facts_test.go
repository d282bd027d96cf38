package facts

import (
	"fmt"
	"math"
	"math/rand"
	"slices"
	"testing"

	"gatewarden/api"
	"gatewarden/ask"
	"gatewarden/real"
	"gatewarden/span"
)

const (
	least    = math.MinInt
	greatest = math.MaxInt
)

// row is what requests of a function have at most, and whether their values are registers': spelt out here so that it shares nothing with what it is held against.
type row struct {
	fc     int
	count  int // the greatest Count; 0: it reads nothing
	many   int // the greatest Many; 0: it writes nothing
	values int // how many Values; 0: as many as Many
	top    int // the greatest value
	regs   bool
}

func rows() []row {
	return []row{
		{fc: 1, count: 2000},
		{fc: 2, count: 2000},
		{fc: 3, count: 125},
		{fc: 4, count: 125},
		{fc: 5, many: 1, top: 1},
		{fc: 6, many: 1, top: 65535, regs: true},
		{fc: 15, many: 1968, top: 1},
		{fc: 16, many: 123, top: 65535, regs: true},
		{fc: 22, many: 1, values: 2, top: 65535},
		{fc: 23, count: 125, many: 121, top: 65535, regs: true},
	}
}

// ask makes a request of the row; of what it doesn't read, or write, it has nothing.
func (r row) ask(read, count, write, many int) api.Ask {
	a := api.Ask{Func: r.fc}
	if r.count > 0 {
		a.Read, a.Count = read, count
	}
	if r.many > 0 {
		a.Write, a.Many = write, many
		size := many
		if r.values > 0 {
			size = r.values
		}
		for i := range size {
			a.Values = append(a.Values, (r.top-i*i*7)&r.top)
		}
	}
	return a
}

// bounds answers the least and the greatest counts that may be; 0, if none may be.
func bounds(most int) []int {
	if most < 2 {
		return []int{most}
	}
	return []int{1, 2, most - 1, most}
}

// requests answers requests of all functions: the least and the greatest counts, at the first addresses, the last ones and between.
func requests() []api.Ask {
	var l []api.Ask
	for _, r := range rows() {
		for _, count := range bounds(r.count) {
			for _, many := range bounds(r.many) {
				for _, read := range []int{0, 1, 4660, 65536 - count} {
					for _, write := range []int{0, 2, 4700, 65536 - many} {
						l = append(l, r.ask(read, count, write, many))
					}
				}
			}
		}
	}
	return l
}

// of makes ranges of ends that stand by twos.
func of(ends ...int) []api.Range {
	var l []api.Range
	for i := 0; i+1 < len(ends); i += 2 {
		l = append(l, api.Range{Low: ends[i], High: ends[i+1]})
	}
	return l
}

// equal is what Same is held against: nil or empty are alike.
func equal(a, b api.Facts) bool {
	return fmt.Sprint(a) == fmt.Sprint(b)
}

// The first wrong answer ends a test: the loops over many requests would tell thousands of them.
func wantOf(t *testing.T, client, unit int, a api.Ask, want api.Facts) {
	t.Helper()
	if !ask.Right(a) {
		t.Fatalf("%v may not be: the test is wrong", a)
	}
	if f := Of(client, unit, a); !equal(f, want) {
		t.Fatalf("Of(%d, %d, %v) = %+v; want %+v", client, unit, a, f, want)
	}
}

func wantReals(t *testing.T, l []int, want ...float64) {
	t.Helper()
	got, ok := Reals(l)
	if !ok || !slices.EqualFunc(got, want, real.Same) {
		t.Fatalf("Reals(%v) = %v, %v; want %v", l, got, ok, want)
	}
}

func wantNone(t *testing.T, l []int) {
	t.Helper()
	if got, ok := Reals(l); len(got) != 0 || ok {
		t.Fatalf("Reals(%v) = %v, %v; want none", l, got, ok)
	}
}

func wantSame(t *testing.T, a, b api.Facts, want bool) {
	t.Helper()
	if got := Same(a, b); got != want {
		t.Fatalf("Same(%+v, %+v) = %v; want %v", a, b, got, want)
	}
	if got := Same(b, a); got != want {
		t.Fatalf("Same(%+v, %+v) = %v; want %v", b, a, got, want)
	}
}

// sample is a client's request to a unit, and its facts, worked out by hand.
type sample struct {
	client, unit int
	a            api.Ask
	want         api.Facts
}

func samples() []sample {
	return []sample{
		{1, 2, api.Ask{Func: 1, Read: 100, Count: 2000},
			api.Facts{Client: 1, Unit: 2, Func: 1, Spans: of(100, 2099)}},
		{0, 0, api.Ask{Func: 1, Read: 0, Count: 1},
			api.Facts{Func: 1, Spans: of(0, 0)}},
		{3, 255, api.Ask{Func: 2, Read: 258, Count: 772},
			api.Facts{Client: 3, Unit: 255, Func: 2, Spans: of(258, 1029)}},
		{255, 17, api.Ask{Func: 3, Read: 65411, Count: 125},
			api.Facts{Client: 255, Unit: 17, Func: 3, Spans: of(65411, 65535)}},
		{4, 5, api.Ask{Func: 4, Read: 65535, Count: 1},
			api.Facts{Client: 4, Unit: 5, Func: 4, Spans: of(65535, 65535)}},
		{6, 7, api.Ask{Func: 5, Write: 14, Many: 1, Values: []int{1}},
			api.Facts{Client: 6, Unit: 7, Func: 5, Spans: of(14, 14), Values: []int{1}}},
		{8, 9, api.Ask{Func: 6, Write: 65535, Many: 1, Values: []int{4660}},
			api.Facts{Client: 8, Unit: 9, Func: 6, Spans: of(65535, 65535), Values: []int{4660}, Regs: []int{4660}}},
		{10, 11, api.Ask{Func: 15, Write: 3, Many: 4, Values: []int{1, 0, 1, 1}},
			api.Facts{Client: 10, Unit: 11, Func: 15, Spans: of(3, 6), Values: []int{1, 0, 1, 1}}},
		{12, 13, api.Ask{Func: 16, Write: 10, Many: 2, Values: []int{258, 65535}},
			api.Facts{Client: 12, Unit: 13, Func: 16, Spans: of(10, 11), Values: []int{258, 65535}, Regs: []int{258, 65535}}},
		{14, 15, api.Ask{Func: 22, Write: 4, Many: 1, Values: []int{242, 37}},
			api.Facts{Client: 14, Unit: 15, Func: 22, Spans: of(4, 4), Values: []int{242, 37}}},
		{16, 18, api.Ask{Func: 23, Read: 3, Count: 6, Write: 14, Many: 1, Values: []int{255}},
			api.Facts{Client: 16, Unit: 18, Func: 23, Spans: of(3, 8, 14, 14), Values: []int{255}, Regs: []int{255}}},
		{19, 20, api.Ask{Func: 23, Read: 65535, Count: 1, Write: 65533, Many: 3, Values: []int{7, 0, 9}},
			api.Facts{Client: 19, Unit: 20, Func: 23, Spans: of(65535, 65535, 65533, 65535), Values: []int{7, 0, 9}, Regs: []int{7, 0, 9}}},
	}
}

// P14.1: the facts of requests of all functions.
func TestSamples(t *testing.T) {
	seen := map[int]bool{}
	for _, one := range samples() {
		wantOf(t, one.client, one.unit, one.a, one.want)
		seen[one.a.Func] = true
	}
	if len(seen) != len(rows()) {
		t.Fatalf("samples of the functions %v alone", seen)
	}
}

// P14.1: the chapter's example, from its bytes on.
func TestExample(t *testing.T) {
	a, e := ask.Get("\x10\x00\x0a\x00\x02\x04\x01\x02\x03\x04")
	if e != api.OK {
		t.Fatalf("the example's bytes: error %d", e)
	}
	wantOf(t, 5, 17, a, api.Facts{Client: 5, Unit: 17, Func: 16, Spans: of(10, 11), Values: []int{258, 772}, Regs: []int{258, 772}})
}

// P14.1: of each function the least and the greatest counts, at the first addresses, the last ones and between.
func TestEndsOfEachFunction(t *testing.T) {
	for _, r := range rows() {
		for _, a := range requests() {
			if a.Func != r.fc {
				continue
			}
			want := api.Facts{Client: 31, Unit: 32, Func: r.fc, Values: a.Values}
			if r.count > 0 {
				want.Spans = append(want.Spans, of(a.Read, a.Read+a.Count-1)...)
			}
			if r.many > 0 {
				want.Spans = append(want.Spans, of(a.Write, a.Write+a.Many-1)...)
			}
			if r.regs {
				want.Regs = a.Values
			}
			wantOf(t, 31, 32, a, want)
		}
	}
}

// P14.1: client and unit are told as they are, whatever they are, each in its own field.
func TestClientAndUnit(t *testing.T) {
	l := []int{least, least + 1, -65536, -1, 0, 1, 2, 127, 128, 247, 255, 256, 65535, 65536, greatest - 1, greatest}
	for _, one := range samples() {
		for _, client := range l {
			for _, unit := range l {
				one.want.Client, one.want.Unit = client, unit
				wantOf(t, client, unit, one.a, one.want)
			}
		}
	}
}

// P14.1: what is read stands ahead of what is written, wherever they lie, and they are never one range.
func TestOrderOfSpans(t *testing.T) {
	for _, one := range []struct {
		read, count, write, many int
		want                     []api.Range
	}{
		{0, 2, 10, 3, of(0, 1, 10, 12)},
		{10, 2, 0, 3, of(10, 11, 0, 2)},
		{10, 3, 13, 2, of(10, 12, 13, 14)},
		{13, 2, 10, 3, of(13, 14, 10, 12)},
		{10, 5, 12, 5, of(10, 14, 12, 16)},
		{12, 5, 10, 5, of(12, 16, 10, 14)},
		{10, 9, 12, 2, of(10, 18, 12, 13)},
		{12, 2, 10, 9, of(12, 13, 10, 18)},
		{7, 4, 7, 4, of(7, 10, 7, 10)},
		{0, 1, 0, 1, of(0, 0, 0, 0)},
		{65535, 1, 65535, 1, of(65535, 65535, 65535, 65535)},
		{65535, 1, 0, 121, of(65535, 65535, 0, 120)},
		{0, 125, 65415, 121, of(0, 124, 65415, 65535)},
		{65411, 125, 65415, 121, of(65411, 65535, 65415, 65535)},
	} {
		a := row{fc: 23, count: 125, many: 121, top: 65535}.ask(one.read, one.count, one.write, one.many)
		wantOf(t, 1, 2, a, api.Facts{Client: 1, Unit: 2, Func: 23, Spans: one.want, Values: a.Values, Regs: a.Values})
	}
}

// P14.1: values that are the same make registers of the functions 6, 16 and 23 alone.
func TestRegs(t *testing.T) {
	for _, value := range []int{0, 1} {
		for _, r := range rows() {
			if r.many == 0 {
				continue
			}
			for _, many := range bounds(r.many) {
				a := r.ask(5, 1, 9, many)
				for i := range a.Values {
					a.Values[i] = value
				}
				f := Of(1, 2, a)
				if !slices.Equal(f.Values, a.Values) {
					t.Fatalf("Of(1, 2, %v) has the values %v", a, f.Values)
				}
				has := a.Func == 6 || a.Func == 16 || a.Func == 23
				if has && !slices.Equal(f.Regs, a.Values) || !has && len(f.Regs) != 0 {
					t.Fatalf("Of(1, 2, %v) has the registers %v", a, f.Regs)
				}
			}
		}
	}
}

// P14.1: a request that only reads has no values and no registers, be its list nil or empty.
func TestNoValues(t *testing.T) {
	for _, fc := range []int{1, 2, 3, 4} {
		for _, values := range [][]int{nil, {}, make([]int, 0, 8)} {
			wantOf(t, 1, 2, api.Ask{Func: fc, Read: 9, Count: 3, Values: values}, api.Facts{Client: 1, Unit: 2, Func: fc, Spans: of(9, 11)})
		}
	}
}

// P14.1: floats of none, of one four, and of more.
func TestReals(t *testing.T) {
	wantReals(t, nil)
	wantReals(t, []int{})
	wantReals(t, []int{16368, 0, 0, 0}, 1)
	wantReals(t, []int{0, 0, 0, 0}, 0)
	wantReals(t, []int{0, 0, 0, 1}, math.SmallestNonzeroFloat64)
	wantReals(t, []int{0, 0, 0, 2}, 2*math.SmallestNonzeroFloat64)
	wantReals(t, []int{32751, 65535, 65535, 65535}, math.MaxFloat64)
	wantReals(t, []int{16368, 0, 0, 0, 49156, 0, 0, 0}, 1, -2.5)
	wantReals(t, []int{49156, 0, 0, 0, 16368, 0, 0, 0}, -2.5, 1)
	wantReals(t, []int{16368, 0, 0, 0, 16368, 0, 0, 0, 16368, 0, 0, 0}, 1, 1, 1)
	wantReals(t, []int{16368, 0, 0, 0, 16384, 0, 0, 0, 16392, 0, 0, 0, 16400, 0, 0, 0}, 1, 2, 3, 4)
	// Not a four that begins anywhere else.
	wantReals(t, []int{0, 0, 0, 16368, 0, 0, 0, 0}, math.Ldexp(16368, -1074), 0)
}

// P14.1: floats that are -0, infinite, and no number, by themselves and between others.
func TestRealsThatAreNoneOfTheUsual(t *testing.T) {
	for _, one := range []struct {
		four []int
		want float64
	}{
		{[]int{32768, 0, 0, 0}, math.Copysign(0, -1)},
		{[]int{32752, 0, 0, 0}, math.Inf(1)},
		{[]int{65520, 0, 0, 0}, math.Inf(-1)},
		{[]int{32760, 0, 0, 0}, math.NaN()},
		{[]int{32752, 0, 0, 1}, math.NaN()},
		{[]int{32752, 1, 0, 0}, math.NaN()},
		{[]int{65528, 0, 0, 0}, math.NaN()},
		{[]int{65535, 65535, 65535, 65535}, math.NaN()},
	} {
		wantReals(t, one.four, one.want)
		wantReals(t, slices.Concat(one.four, one.four), one.want, one.want)
		wantReals(t, slices.Concat([]int{16368, 0, 0, 0}, one.four, []int{0, 0, 0, 0}), 1, one.want, 0)
	}
}

// numbers answers n numbers that may be, and the floats of as many whole fours as are in them.
func numbers(random *rand.Rand, n int) ([]int, []float64) {
	var l []int
	var want []float64
	for range n / 4 {
		bits := random.Uint64()
		l = append(l, int(bits/(1<<48)), int(bits/(1<<32)%65536), int(bits/(1<<16)%65536), int(bits%65536))
		want = append(want, math.Float64frombits(bits))
	}
	for range n % 4 {
		l = append(l, random.Intn(65536))
	}
	return l, want
}

// P14.1: numbers that aren't a multiple of four have no floats; those that are have them, one behind the other.
func TestHowManyNumbers(t *testing.T) {
	random := rand.New(rand.NewSource(14))
	for _, n := range []int{1, 2, 3, 5} {
		wantNone(t, make([]int, n))
		wantNone(t, []int{16368, 0, 0, 0, 16368}[:n])
	}
	for n := range 300 {
		l, want := numbers(random, n)
		if n%4 == 0 {
			wantReals(t, l, want...)
		} else {
			wantNone(t, l)
		}
	}
	for _, n := range []int{65536, 65537, 65538, 65539} {
		l, want := numbers(random, n)
		if got, ok := Reals(l); ok != (n == 65536) || ok && !slices.EqualFunc(got, want, real.Same) || !ok && len(got) != 0 {
			t.Fatalf("Reals of %d numbers: %d floats, %v", n, len(got), ok)
		}
	}
}

// P14.1: a number at each place that is at the ends of what it may be, or beyond.
func TestEndsOfNumbers(t *testing.T) {
	for _, size := range []int{4, 8, 12, 120} {
		for at := range size {
			l := make([]int, size)
			for _, n := range []int{0, 1, 65534, 65535} {
				l[at] = n
				want := make([]float64, size/4)
				worth := []uint64{1 << 48, 1 << 32, 1 << 16, 1}[at%4]
				want[at/4] = math.Float64frombits(uint64(n) * worth)
				wantReals(t, l, want...)
			}
			for _, n := range []int{least, least + 1, -65536, -65535, -2, -1, 65536, 65537, 131071, 1 << 32, 1 << 48, greatest - 1, greatest} {
				l[at] = n
				wantNone(t, l)
				// There are none of it in numbers that aren't a multiple of four, either.
				wantNone(t, append(slices.Clone(l), 0))
				wantNone(t, l[:size-1])
			}
		}
	}
}

// full is facts in which each list has more than one thing.
func full() api.Facts {
	return api.Facts{Client: 1, Unit: 2, Func: 3, Spans: of(4, 5, 7, 9), Values: []int{10, 11, 12}, Regs: []int{13, 14, 15}}
}

// others answers facts that differ from full in one thing alone.
func others() []api.Facts {
	var l []api.Facts
	add := func(change func(f *api.Facts)) {
		f := full()
		change(&f)
		l = append(l, f)
	}
	for _, n := range []int{least, -1, 0, 6, 65536, 1 << 32, greatest} {
		add(func(f *api.Facts) { f.Client = n })
		add(func(f *api.Facts) { f.Unit = n })
		add(func(f *api.Facts) { f.Func = n })
		for i := range 2 {
			add(func(f *api.Facts) { f.Spans[i].Low = n })
			add(func(f *api.Facts) { f.Spans[i].High = n })
		}
		for i := range 3 {
			add(func(f *api.Facts) { f.Values[i] = n })
			add(func(f *api.Facts) { f.Regs[i] = n })
		}
	}
	for i := range 2 {
		add(func(f *api.Facts) { f.Spans = f.Spans[:i] })
		add(func(f *api.Facts) { f.Spans = f.Spans[i+1:] })
	}
	for i := range 3 {
		add(func(f *api.Facts) { f.Values = f.Values[:i] })
		add(func(f *api.Facts) { f.Values = f.Values[i+1:] })
		add(func(f *api.Facts) { f.Regs = f.Regs[:i] })
		add(func(f *api.Facts) { f.Regs = f.Regs[i+1:] })
	}
	add(func(f *api.Facts) { f.Spans = append(f.Spans, of(10, 9)...) })
	add(func(f *api.Facts) { f.Values = append(f.Values, 0) })
	add(func(f *api.Facts) { f.Regs = append(f.Regs, 0) })
	// The same things in another order, and the same addresses in other ranges.
	add(func(f *api.Facts) { slices.Reverse(f.Spans) })
	add(func(f *api.Facts) { slices.Reverse(f.Values) })
	add(func(f *api.Facts) { slices.Reverse(f.Regs) })
	add(func(f *api.Facts) { f.Spans = of(4, 4, 5, 5, 7, 9) })
	add(func(f *api.Facts) { f.Spans = of(7, 9, 4, 5) })
	return l
}

// P14.1: facts that differ in one thing alone aren't the same, whichever it is.
func TestSameOfWhatDiffersInOneThing(t *testing.T) {
	wantSame(t, full(), full(), true)
	for _, f := range others() {
		wantSame(t, f, f, true)
		wantSame(t, full(), f, false)
	}
}

// P14.1: what stands in another field isn't the same.
func TestSameOfWhatIsExchanged(t *testing.T) {
	a := full()
	for _, b := range []api.Facts{
		{Client: a.Unit, Unit: a.Client, Func: a.Func, Spans: a.Spans, Values: a.Values, Regs: a.Regs},
		{Client: a.Func, Unit: a.Unit, Func: a.Client, Spans: a.Spans, Values: a.Values, Regs: a.Regs},
		{Client: a.Client, Unit: a.Func, Func: a.Unit, Spans: a.Spans, Values: a.Values, Regs: a.Regs},
		{Client: a.Client, Unit: a.Unit, Func: a.Func, Spans: a.Spans, Values: a.Regs, Regs: a.Values},
	} {
		wantSame(t, a, b, false)
	}
}

// P14.1: lists that hold nothing are the same, nil or empty; what stands in spare room doesn't count.
func TestSameOfEmptyLists(t *testing.T) {
	empty := api.Facts{Spans: of(1, 2)[:0], Values: []int{1, 2}[:0], Regs: []int{}}
	wantSame(t, api.Facts{}, empty, true)
	wantSame(t, empty, empty, true)
	wantSame(t, api.Facts{}, api.Facts{Spans: of(0, 0)}, false)
	wantSame(t, api.Facts{}, api.Facts{Spans: of(1, 0)}, false)
	wantSame(t, empty, api.Facts{Values: []int{0}}, false)
	wantSame(t, empty, api.Facts{Regs: []int{0}}, false)
	a, b := full(), full()
	b.Spans, b.Values, b.Regs = append(b.Spans, of(8, 8)...)[:2], append(b.Values, 1)[:3], append(b.Regs, 1)[:3]
	wantSame(t, a, b, true)
}

// P14.1: the facts of requests are the same just where client, unit and request are.
func TestSameOfRequests(t *testing.T) {
	for i, one := range samples() {
		for k, other := range samples() {
			wantSame(t, Of(one.client, one.unit, one.a), Of(other.client, other.unit, other.a), i == k)
			wantSame(t, Of(1, 2, one.a), Of(1, 2, other.a), i == k)
		}
		wantSame(t, Of(1, 2, one.a), Of(2, 2, one.a), false)
		wantSame(t, Of(1, 2, one.a), Of(1, 1, one.a), false)
		wantSame(t, Of(1, 2, one.a), Of(2, 1, one.a), false)
	}
}

// touched answers the addresses from one on, so many; it counts them one by one.
func touched(from, count int) map[int]bool {
	m := map[int]bool{}
	for range count {
		m[from] = true
		from++
	}
	return m
}

// P14.2: of all addresses, and of those beside, spans have just those that a request reads, or writes; each span those of its own.
func TestAddresses(t *testing.T) {
	for _, r := range rows() {
		for _, many := range bounds(r.many) {
			for _, count := range bounds(r.count) {
				for _, shift := range []int{-3, 0, count, 200} {
					a := r.ask(30000, count, 30000+shift, many)
					var parts []map[int]bool
					if r.count > 0 {
						parts = append(parts, touched(a.Read, a.Count))
					}
					if r.many > 0 {
						parts = append(parts, touched(a.Write, a.Many))
					}
					wantAddresses(t, a, parts, 29990, 33000)
				}
			}
		}
	}
}

// P14.2: the same at the first and the last addresses.
func TestEndsOfAddresses(t *testing.T) {
	for _, r := range rows() {
		for _, a := range []api.Ask{
			r.ask(0, 1, 0, 1),
			r.ask(0, r.count, 0, r.many),
			r.ask(65535, 1, 65535, 1),
			r.ask(65536-r.count, r.count, 65536-r.many, r.many),
			r.ask(0, 1, 65535, 1),
			r.ask(65536-r.count, r.count, 0, r.many),
		} {
			var parts []map[int]bool
			if r.count > 0 {
				parts = append(parts, touched(a.Read, a.Count))
			}
			if r.many > 0 {
				parts = append(parts, touched(a.Write, a.Many))
			}
			wantAddresses(t, a, parts, -10, 3000)
			wantAddresses(t, a, parts, 63000, 65546)
		}
	}
}

// wantAddresses asks for each number from low to high whether the spans of a have it.
func wantAddresses(t *testing.T, a api.Ask, parts []map[int]bool, low, high int) {
	t.Helper()
	if !ask.Right(a) {
		t.Fatalf("%v may not be: the test is wrong", a)
	}
	l := Of(1, 2, a).Spans
	if len(l) != len(parts) {
		t.Fatalf("Of(1, 2, %v) has the spans %v", a, l)
	}
	for n := low; n <= high; n++ {
		has := false
		for i, part := range parts {
			has = has || part[n]
			if span.Has(l[i:i+1], n) != part[n] {
				t.Fatalf("Of(1, 2, %v): the span %v and the address %d; want %v", a, l[i], n, part[n])
			}
		}
		if span.Has(l, n) != has {
			t.Fatalf("Of(1, 2, %v): the spans %v and the address %d; want %v", a, l, n, has)
		}
	}
}

// P14.2: spans have as many addresses as a request's bytes tell, from where they tell it.
func TestAddressesOfBytes(t *testing.T) {
	two := func(s string, at int) int { return int(s[at])*256 + int(s[at+1]) }
	for _, a := range requests() {
		s, ok := ask.Put(a)
		if !ok {
			t.Fatalf("%v may not be: the test is wrong", a)
		}
		var want []api.Range
		switch a.Func {
		case 1, 2, 3, 4, 15, 16:
			want = of(two(s, 1), two(s, 1)+two(s, 3)-1)
		case 5, 6, 22:
			want = of(two(s, 1), two(s, 1))
		case 23:
			want = of(two(s, 1), two(s, 1)+two(s, 3)-1, two(s, 5), two(s, 5)+two(s, 7)-1)
		}
		if got := Of(1, 2, a).Spans; !slices.Equal(got, want) {
			t.Fatalf("Of(1, 2, %v) has the spans %v; want %v", a, got, want)
		}
	}
}

// Rule 5: what is handed in stays, its spare room too.
func TestWhatIsHandedInStays(t *testing.T) {
	for _, one := range samples() {
		room := append(slices.Clone(one.a.Values), 77, 78, 79)
		before := slices.Clone(room)
		one.a.Values = room[:len(one.a.Values)]
		f := Of(one.client, one.unit, one.a)
		for _, l := range [][]int{f.Values, f.Regs} {
			clear(l)
			clear(l[:cap(l)])
			_ = append(l, 5)
		}
		if !slices.Equal(room, before) {
			t.Fatalf("Of(%d, %d, %v), or what is done to its answer, changed %v to %v", one.client, one.unit, one.a, before, room)
		}
	}
	for _, last := range []int{0, 65535, 65536, -1} {
		for size := range 10 {
			room := []int{16368, 1, 258, 7, 49156, 2, 3, last, 5, 6, 77, 78}
			before := slices.Clone(room)
			Reals(room[:size])
			if !slices.Equal(room, before) {
				t.Fatalf("Reals(%v) changed %v to %v", before[:size], before, room)
			}
		}
	}
}

// Rule 5: Same leaves both of its facts, their spare room too.
func TestSameLeavesItsFacts(t *testing.T) {
	roomy := func() api.Facts {
		f := full()
		slices.Reverse(f.Spans)
		f.Spans = append(f.Spans, of(99, 98)...)[:2]
		f.Values = append(f.Values, 99)[:3]
		f.Regs = append(f.Regs, 98)[:3]
		return f
	}
	whole := func(f api.Facts) string {
		return fmt.Sprint(f, f.Spans[:3], f.Values[:4], f.Regs[:4])
	}
	a, b := roomy(), roomy()
	b.Regs[2] = 16
	wantA, wantB := whole(a), whole(b)
	Same(a, b)
	Same(a, a)
	if whole(a) != wantA || whole(b) != wantB {
		t.Fatalf("Same changed %s, %s to %s, %s", wantA, wantB, whole(a), whole(b))
	}
}

// Rule 5: a request isn't kept: if it is changed behind the call, its facts stay.
func TestWhatIsHandedInIsNotKept(t *testing.T) {
	for _, one := range samples() {
		values := slices.Clone(one.a.Values)
		one.a.Values = values
		f := Of(one.client, one.unit, one.a)
		for i := range values {
			values[i] = 4321
		}
		if !equal(f, one.want) {
			t.Fatalf("facts became %+v; want %+v", f, one.want)
		}
	}
}

// Rules 5 and 6: an answer shares nothing with another one, and no two of its lists do.
func TestAnswersStandAlone(t *testing.T) {
	for _, one := range samples() {
		first, second := Of(one.client, one.unit, one.a), Of(one.client, one.unit, one.a)
		clear(first.Spans[:cap(first.Spans)])
		clear(first.Values[:cap(first.Values)])
		if !slices.Equal(first.Regs, one.want.Regs) {
			t.Fatalf("the registers of %v share with its values: %v", one.a, first.Regs)
		}
		clear(first.Regs[:cap(first.Regs)])
		if !equal(second, one.want) {
			t.Fatalf("two facts of %v share", one.a)
		}
		wantOf(t, one.client, one.unit, one.a, one.want)
	}
	l := []int{16368, 0, 0, 0, 49156, 0, 0, 0}
	first, _ := Reals(l)
	second, _ := Reals(l)
	clear(first[:cap(first)])
	if !slices.Equal(second, []float64{1, -2.5}) {
		t.Fatalf("two answers of Reals share: %v", second)
	}
	wantNone(t, l[:5])
	wantReals(t, l, 1, -2.5)
}
