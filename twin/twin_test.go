package twin

import (
	"math"
	"slices"
	"strings"
	"testing"
)

// wrong are numbers that two bytes don't hold; the lowest 16 bits of some look like a number that they do.
var wrong = []int{-1, -2, -258, -65535, -65536, 65536, 65537, 65536 + 258, 1 << 31, 1<<32 + 258, math.MaxInt, math.MinInt}

// away are places that lie far from any text, where a sum could go round.
var away = []int{math.MinInt, math.MinInt + 1, -65536, -3, -2, -1, math.MaxInt - 2, math.MaxInt - 1, math.MaxInt}

// bytesOf works a number's bytes out by division, so that it shares nothing with the shifts it is held against.
func bytesOf(n int) string {
	return string([]byte{byte(n / 256), byte(n % 256)})
}

// The first wrong answer ends a test: the loops over all numbers would tell thousands of them.
func wantPut(t *testing.T, n int, want string, good bool) {
	t.Helper()
	if s, ok := Put(n); s != want || ok != good {
		t.Fatalf("Put(%d) = %q, %v; want %q, %v", n, s, ok, want, good)
	}
}

func wantGet(t *testing.T, s string, at, want int, good bool) {
	t.Helper()
	if n, ok := Get(s, at); n != want || ok != good {
		t.Fatalf("Get(%q, %d) = %d, %v; want %d, %v", s, at, n, ok, want, good)
	}
}

func wantPutAll(t *testing.T, l []int, want string, good bool) {
	t.Helper()
	if s, ok := PutAll(l); s != want || ok != good {
		t.Fatalf("PutAll(%v) = %q, %v; want %q, %v", l, s, ok, want, good)
	}
}

func wantGetAll(t *testing.T, s string, want []int, good bool) {
	t.Helper()
	if l, ok := GetAll(s); !slices.Equal(l, want) || ok != good {
		t.Fatalf("GetAll(%q) = %v, %v; want %v, %v", s, l, ok, want, good)
	}
}

// P1.1: Put tells the higher byte first.
func TestPutLaysTheHigherByteFirst(t *testing.T) {
	wantPut(t, 258, "\x01\x02", true)
	wantPut(t, 513, "\x02\x01", true)
	wantPut(t, 0, "\x00\x00", true)
	wantPut(t, 1, "\x00\x01", true)
	wantPut(t, 127, "\x00\x7f", true)
	wantPut(t, 128, "\x00\x80", true)
	wantPut(t, 255, "\x00\xff", true)
	wantPut(t, 256, "\x01\x00", true)
	wantPut(t, 32767, "\x7f\xff", true)
	wantPut(t, 32768, "\x80\x00", true)
	wantPut(t, 65534, "\xff\xfe", true)
	wantPut(t, 65535, "\xff\xff", true)
}

// P1.1: Put of each number that there is.
func TestPutOfAllNumbers(t *testing.T) {
	for n := range 65536 {
		wantPut(t, n, bytesOf(n), true)
	}
}

// P1.1: Put of what is below 0 or above 65535.
func TestPutRefusesOtherNumbers(t *testing.T) {
	for _, n := range wrong {
		wantPut(t, n, "", false)
	}
}

// P1.1: Get takes the two bytes from a place on, whatever stands around them.
func TestGetTakesTheBytesAtThePlace(t *testing.T) {
	s := "\x01\x02\xff\xff\x00\x00\x80"
	for at, want := range []int{258, 767, 65535, 65280, 0, 128} {
		wantGet(t, s, at, want, true)
	}
	wantGet(t, "\x01\x02", 0, 258, true)
	wantGet(t, "x\x01\x02", 1, 258, true)
}

// P1.1: Get where one byte, or none, stands at the place.
func TestGetRefusesPlacesOutside(t *testing.T) {
	for _, s := range []string{"", "\x01", "\x01\x02", "\x01\x02\x03", "\x01\x02\x03\x04"} {
		for at := len(s) - 1; at < len(s)+4; at++ {
			wantGet(t, s, at, 0, false)
		}
		for _, at := range away {
			wantGet(t, s, at, 0, false)
		}
	}
}

// P1.1: PutAll lays the bytes of all, in order.
func TestPutAllLaysAll(t *testing.T) {
	wantPutAll(t, nil, "", true)
	wantPutAll(t, []int{}, "", true)
	wantPutAll(t, []int{258}, "\x01\x02", true)
	wantPutAll(t, []int{0}, "\x00\x00", true)
	wantPutAll(t, []int{65535}, "\xff\xff", true)
	wantPutAll(t, []int{258, 3}, "\x01\x02\x00\x03", true)
	wantPutAll(t, []int{3, 258, 3, 0, 65535, 32768}, "\x00\x03\x01\x02\x00\x03\x00\x00\xff\xff\x80\x00", true)
}

// P1.1: PutAll with one that is no such number, at each place of the list.
func TestPutAllRefusesWhereOneIsWrong(t *testing.T) {
	for _, n := range wrong {
		wantPutAll(t, []int{n}, "", false)
		for at := range 4 {
			l := []int{1, 0, 65535, 258}
			l[at] = n
			wantPutAll(t, l, "", false)
		}
	}
}

// P1.1: GetAll takes the bytes by twos, in order.
func TestGetAllTakesByTwos(t *testing.T) {
	wantGetAll(t, "", nil, true)
	wantGetAll(t, "\x01\x02", []int{258}, true)
	wantGetAll(t, "\x00\x00", []int{0}, true)
	wantGetAll(t, "\xff\xff", []int{65535}, true)
	wantGetAll(t, "\x01\x02\x00\x03", []int{258, 3}, true)
	wantGetAll(t, "\x00\x03\x01\x02\x00\x03\x00\x00\xff\xff\x80\x00", []int{3, 258, 3, 0, 65535, 32768}, true)
}

// P1.1: GetAll of an odd number of bytes.
func TestGetAllRefusesOddLengths(t *testing.T) {
	for _, n := range []int{1, 3, 5, 255, 257} {
		wantGetAll(t, strings.Repeat("\x01", n), nil, false)
	}
}

// P1.2: each number comes back from its bytes, and the bytes from it.
func TestOneThereAndBack(t *testing.T) {
	for n := range 65536 {
		s, ok := Put(n)
		if !ok {
			t.Fatalf("Put(%d) is refused", n)
		}
		wantGet(t, s, 0, n, true)
		wantGet(t, "\xaa"+s+"\xbb", 1, n, true)
		b := bytesOf(n)
		m, ok := Get(b, 0)
		if !ok {
			t.Fatalf("Get(%q, 0) is refused", b)
		}
		wantPut(t, m, b, true)
	}
}

// P1.2: all numbers, and all texts of an even length, come back.
func TestAllThereAndBack(t *testing.T) {
	l, text := []int{}, ""
	for n := 0; n < 65536; n += 257 {
		l, text = append(l, n, 65535-n), text+bytesOf(n)+bytesOf(65535-n)
		wantPutAll(t, l, text, true)
		wantGetAll(t, text, l, true)
	}
}

// P1.2: all numbers in one list.
func TestEachNumberInOneList(t *testing.T) {
	l := make([]int, 65536)
	for n := range l {
		l[n] = n
	}
	s, ok := PutAll(l)
	if !ok || len(s) != 2*len(l) {
		t.Fatalf("PutAll of all numbers: %d bytes, %v", len(s), ok)
	}
	if back, ok := GetAll(s); !ok || !slices.Equal(back, l) {
		t.Error("GetAll of all numbers' bytes isn't all numbers")
	}
	for n := range l {
		if m, ok := Get(s, 2*n); m != n || !ok {
			t.Fatalf("Get at %d of all numbers' bytes = %d, %v; want %d", 2*n, m, ok, n)
		}
	}
}

// Rule 5: the list that is handed in stays, its spare room too.
func TestPutAllLeavesItsList(t *testing.T) {
	for _, last := range []int{9, -1} {
		room := []int{1, 258, last, 77, 78}
		PutAll(room[:3])
		if !slices.Equal(room, []int{1, 258, last, 77, 78}) {
			t.Errorf("PutAll changed its list: %v", room)
		}
	}
}

// Rule 6: an answer shares nothing with the next one.
func TestGetAllAnswersListsOfTheirOwn(t *testing.T) {
	first, _ := GetAll("\x01\x02\x00\x03")
	if len(first) != 2 {
		t.Fatalf("GetAll answers %v", first)
	}
	first[0], first[1] = 7, 8
	wantGetAll(t, "\x01\x02\x00\x03", []int{258, 3}, true)
}
