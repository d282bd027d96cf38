package coil

import (
	"math"
	"math/rand"
	"slices"
	"strings"
	"testing"
)

// wrong are numbers that are no bits; the lowest bits of some look like one.
var wrong = []int{-1, -2, -255, -256, 2, 3, 5, 8, 127, 128, 129, 255, 256, 257, 1 << 31, 1 << 32, 1<<32 + 1, math.MaxInt, math.MinInt, math.MinInt + 1}

// below are numbers of bits that no list has.
var below = []int{-1, -2, -3, -7, -8, -9, -15, -16, -1 << 32, -1 << 40, math.MinInt, math.MinInt + 1}

// weights are what a byte's bits are worth, spelt out so that they share nothing with the shifts they are held against.
var weights = [8]int{1, 2, 4, 8, 16, 32, 64, 128}

// samples are worked out by hand.
var samples = []struct {
	l []int
	s string
}{
	{nil, ""},
	{[]int{0}, "\x00"},
	{[]int{1}, "\x01"},
	{[]int{0, 1}, "\x02"},
	{[]int{1, 0}, "\x01"},
	{[]int{1, 0, 1}, "\x05"},
	{[]int{0, 0, 1, 1}, "\x0c"},
	{[]int{1, 1, 0, 0}, "\x03"},
	{[]int{0, 0, 0, 0, 0, 0, 0}, "\x00"},
	{[]int{1, 0, 0, 0, 0, 0, 1}, "\x41"},
	{[]int{1, 1, 1, 1, 1, 1, 1}, "\x7f"},
	{[]int{0, 0, 0, 0, 0, 0, 0, 0}, "\x00"},
	{[]int{0, 1, 0, 0, 0, 0, 0, 1}, "\x82"},
	{[]int{1, 0, 1, 1, 0, 0, 1, 1}, "\xcd"},
	{[]int{1, 1, 1, 1, 1, 1, 1, 1}, "\xff"},
	{[]int{0, 0, 0, 0, 0, 0, 0, 0, 0}, "\x00\x00"},
	{[]int{0, 0, 0, 0, 0, 0, 0, 0, 1}, "\x00\x01"},
	{[]int{1, 0, 1, 0, 0, 0, 0, 0, 1}, "\x05\x01"},
	{[]int{1, 1, 1, 1, 1, 1, 1, 1, 1}, "\xff\x01"},
	{[]int{0, 0, 0, 0, 0, 0, 0, 1, 0, 0, 0, 0, 0, 0, 1}, "\x80\x40"},
	{[]int{1, 0, 0, 0, 0, 0, 0, 0, 0, 0, 0, 0, 0, 0, 0, 1}, "\x01\x80"},
	{[]int{1, 0, 1, 1, 0, 0, 1, 1, 1, 1, 0, 1, 0, 1, 1, 0, 1, 0, 1}, "\xcd\x6b\x05"},
}

// counted makes the bytes of bits by adding up what each is worth, on paper.
func counted(l []int) string {
	var b strings.Builder
	for piece := range slices.Chunk(l, len(weights)) {
		sum := 0
		for i, bit := range piece {
			if bit == 1 {
				sum += weights[i]
			}
		}
		b.WriteByte(byte(sum))
	}
	return b.String()
}

// ones answers n bits, all of them 1.
func ones(n int) []int {
	return slices.Repeat([]int{1}, n)
}

// The first wrong answer ends a test: the loops over many lists would tell thousands of them.
func wantSize(t *testing.T, n, want int) {
	t.Helper()
	if got := Size(n); got != want {
		t.Fatalf("Size(%d) = %d; want %d", n, got, want)
	}
}

func wantPut(t *testing.T, l []int, want string, good bool) {
	t.Helper()
	if s, ok := Put(l); s != want || ok != good {
		t.Fatalf("Put(%v) = %q, %v; want %q, %v", l, s, ok, want, good)
	}
}

func wantGet(t *testing.T, s string, n int, want []int, good bool) {
	t.Helper()
	if l, ok := Get(s, n); !slices.Equal(l, want) || ok != good {
		t.Fatalf("Get(%q, %d) = %v, %v; want %v, %v", s, n, l, ok, want, good)
	}
}

// wantBoth holds bits and bytes against each other, there and back.
func wantBoth(t *testing.T, l []int, s string) {
	t.Helper()
	wantSize(t, len(l), len(s))
	wantPut(t, l, s, true)
	wantGet(t, s, len(l), l, true)
}

// P5.1: Size of few bits, counted one by one: each eighth one opens a byte.
func TestSizeCountedUp(t *testing.T) {
	want, room := 0, 0
	for n := range 70000 {
		wantSize(t, n, want)
		if room == 0 {
			want, room = want+1, 8
		}
		room--
	}
}

// P5.1: Size around multiples of eight, up to 2^40.
func TestSizeAroundMultiples(t *testing.T) {
	for _, k := range []int{1, 2, 3, 31, 246, 250, 8192, 1 << 28, 1<<29 - 1, 1 << 29, 1<<29 + 1, 1<<37 - 1} {
		wantSize(t, 8*k-1, k)
		wantSize(t, 8*k, k)
		wantSize(t, 8*k+1, k+1)
	}
	wantSize(t, 1<<40-8, 137438953471)
	wantSize(t, 1<<40-7, 137438953472)
	wantSize(t, 1<<40-1, 137438953472)
	wantSize(t, 1<<40, 137438953472)
}

// P5.1: Size of no bits, and of fewer.
func TestSizeOfNone(t *testing.T) {
	wantSize(t, 0, 0)
	for _, n := range below {
		wantSize(t, n, 0)
	}
}

// P5.1: Put and Get of each sample: no bits, one, seven, eight, nine and more.
func TestSamples(t *testing.T) {
	for _, one := range samples {
		wantBoth(t, one.l, one.s)
	}
	wantPut(t, []int{}, "", true)
}

// P5.1: each bit alone, and each bit missing, in lists of up to three bytes.
func TestEachBitAlone(t *testing.T) {
	for n := 1; n <= 24; n++ {
		for at := range n {
			l := make([]int, n)
			l[at] = 1
			wantBoth(t, l, counted(l))
			l = ones(n)
			l[at] = 0
			wantBoth(t, l, counted(l))
		}
	}
	for at, weight := range weights {
		l := make([]int, 8)
		l[at] = 1
		wantBoth(t, l, string([]byte{byte(weight)}))
	}
}

// P5.1: Put with a number that is no bit, at each place of the list: first, last and in the middle.
func TestPutRefusesWhatIsNoBit(t *testing.T) {
	for _, n := range wrong {
		for size := 1; size <= 18; size++ {
			for at := range size {
				l := make([]int, size)
				l[at] = n
				wantPut(t, l, "", false)
				l = ones(size)
				l[at] = n
				wantPut(t, l, "", false)
			}
		}
		wantPut(t, []int{n, n}, "", false)
		wantPut(t, []int{n, -n}, "", false)
	}
}

// P5.1: Get of bytes that are too few, or too many, whatever they are.
func TestGetRefusesOtherLengths(t *testing.T) {
	for n := range 67 {
		for size := range 12 {
			if 8*size-7 <= n && n <= 8*size {
				continue
			}
			wantGet(t, strings.Repeat("\x00", size), n, nil, false)
			wantGet(t, strings.Repeat("\x01", size), n, nil, false)
			wantGet(t, strings.Repeat("\xff", size), n, nil, false)
		}
	}
	for _, n := range []int{1 << 31, 1 << 32, 1<<32 + 8, 1 << 40} {
		wantGet(t, "", n, nil, false)
		wantGet(t, "\x00", n, nil, false)
	}
}

// P5.1: Get of fewer bits than none.
func TestGetRefusesLessThanNone(t *testing.T) {
	for _, n := range below {
		for _, s := range []string{"", "\x00", "\x01", "\xff", "\x00\x00"} {
			wantGet(t, s, n, nil, false)
		}
	}
}

// P5.1: Get where one bit is left that isn't 0, each of them alone, and all of them.
func TestGetRefusesWhatIsLeft(t *testing.T) {
	for n := 1; n <= 24; n++ {
		for _, l := range [][]int{make([]int, n), ones(n)} {
			s := counted(l)
			last := s[len(s)-1]
			wantGet(t, s, n, l, true)
			all := 0
			for at := (n-1)%8 + 1; at < 8; at++ {
				wantGet(t, s[:len(s)-1]+string([]byte{last + byte(weights[at])}), n, nil, false)
				all += weights[at]
			}
			if all > 0 {
				wantGet(t, s[:len(s)-1]+string([]byte{last + byte(all)}), n, nil, false)
			}
		}
	}
}

// P5.1: only the last byte has bits that are left; in those ahead of it all count.
func TestGetTakesAllOfTheBytesAhead(t *testing.T) {
	wantGet(t, "\xff\x01", 9, ones(9), true)
	wantGet(t, "\xff\xff\x01", 17, ones(17), true)
	wantGet(t, "\xff\xff\x02", 17, nil, false)
	wantGet(t, "\x80\x00", 9, []int{0, 0, 0, 0, 0, 0, 0, 1, 0}, true)
}

// P5.2: all lists of up to twelve bits come back, and no two of one length have the same bytes.
func TestAllShortLists(t *testing.T) {
	lists := [][]int{{}}
	for range 12 {
		had, longer := map[string]bool{}, [][]int{}
		for _, l := range lists {
			for bit := range 2 {
				one := append(slices.Clone(l), bit)
				s := counted(one)
				wantBoth(t, one, s)
				if had[s] {
					t.Fatalf("%v has the bytes %q of another list", one, s)
				}
				had[s] = true
				longer = append(longer, one)
			}
		}
		lists = longer
	}
}

// P5.2: all texts of one and of two bytes come back from their bits, where they are such.
func TestAllShortTexts(t *testing.T) {
	for b := range 256 {
		wantBack(t, string([]byte{byte(b)}))
		for c := range 256 {
			wantBack(t, string([]byte{byte(c), byte(b)}))
		}
	}
}

// wantBack asks for each number of bits that s could have: what is answered must have the bytes s, and be refused only where a bit is left.
func wantBack(t *testing.T, s string) {
	t.Helper()
	last := int(s[len(s)-1])
	for n := 8*len(s) - 7; n <= 8*len(s); n++ {
		l, ok := Get(s, n)
		// Of what is left each bit is worth more than all that are used, together.
		if used := (n-1)%8 + 1; ok != (used == 8 || last < weights[used%8]) {
			t.Fatalf("Get(%q, %d) = %v, %v", s, n, l, ok)
		}
		if !ok {
			continue
		}
		if len(l) != n || counted(l) != s {
			t.Fatalf("Get(%q, %d) = %v", s, n, l)
		}
		wantPut(t, l, s, true)
	}
}

// P5.2: long lists come back, of multiples of eight bits and beside them.
func TestLongLists(t *testing.T) {
	rule := rand.New(rand.NewSource(5))
	for _, n := range []int{1967, 1968, 1969, 1999, 2000, 2001, 65535, 65536, 65537, 1000000} {
		l := make([]int, n)
		for i := range l {
			l[i] = rule.Intn(2)
		}
		s, ok := Put(l)
		if !ok || s != counted(l) {
			t.Fatalf("Put of %d bits isn't their bytes", n)
		}
		if back, ok := Get(s, n); !ok || !slices.Equal(back, l) {
			t.Fatalf("Get of %d bits isn't what was put", n)
		}
		l[n-1] = 2
		wantPutRefused(t, l)
	}
}

// wantPutRefused is wantPut for lists that are too long to be told.
func wantPutRefused(t *testing.T, l []int) {
	t.Helper()
	if s, ok := Put(l); s != "" || ok {
		t.Fatalf("Put of %d numbers, one of them no bit: %d bytes, %v", len(l), len(s), ok)
	}
}

// Rule 5: the list that is handed in stays, its spare room too, whether it is taken or refused.
func TestPutLeavesItsList(t *testing.T) {
	for _, last := range []int{0, 1, 2, -1} {
		room := []int{1, 0, 1, 1, 0, 0, 1, 0, last, 77, 78, 1, 0}
		before := slices.Clone(room)
		Put(room[:9])
		if !slices.Equal(room, before) {
			t.Fatalf("Put changed its list: %v became %v", before, room)
		}
	}
}

// Rules 5 and 6: an answer shares nothing with the next one.
func TestGetAnswersListsOfTheirOwn(t *testing.T) {
	for _, one := range samples {
		first, _ := Get(one.s, len(one.l))
		first = first[:cap(first)]
		for i := range first {
			first[i] = 7
		}
		wantGet(t, one.s, len(one.l), one.l, true)
	}
}
