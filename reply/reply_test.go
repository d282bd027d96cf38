package reply

import (
	"math"
	"math/rand"
	"slices"
	"strings"
	"testing"

	"gatewarden/api"
)

const (
	least    = math.MinInt
	greatest = math.MaxInt
)

// known are the codes of the chapter, spelt out here so that they share nothing with what they are held against.
var known = []int{1, 2, 3, 4, 5, 6, 8, 10, 11}

// funcs are the functions that a request may have.
var funcs = []int{1, 2, 3, 4, 5, 6, 15, 16, 22, 23}

// row is what a normal response of a function has: as many data as the request's Count, from 0 to top.
type row struct {
	fc    int
	count int // the greatest Count
	top   int
}

var rows = []row{
	{fc: 1, count: 2000, top: 1},
	{fc: 2, count: 2000, top: 1},
	{fc: 3, count: 125, top: 65535},
	{fc: 4, count: 125, top: 65535},
	{fc: 23, count: 125, top: 65535},
}

// ask makes a request of the row that reads so many.
func (r row) ask(count int) api.Ask {
	a := api.Ask{Func: r.fc, Read: 7, Count: count}
	if r.fc == 23 {
		a.Write, a.Many, a.Values = 9, 2, []int{1, 258}
	}
	return a
}

// filled answers n data from 0 to top, the last one the greatest.
func filled(n, top int) []int {
	l := make([]int, n)
	for i := range l {
		l[i] = (top - i*i*7) & top
	}
	if n > 0 {
		l[n-1] = top
	}
	return l
}

// sample is a request, data, and the normal response that they make, worked out by hand.
type sample struct {
	a    api.Ask
	data []int
	s    string
}

func samples() []sample {
	return []sample{
		{api.Ask{Func: 1, Read: 0, Count: 1}, []int{0}, "\x01\x01\x00"},
		{api.Ask{Func: 1, Read: 65535, Count: 1}, []int{1}, "\x01\x01\x01"},
		{api.Ask{Func: 1, Read: 0, Count: 9}, []int{1, 0, 1, 0, 0, 0, 0, 0, 1}, "\x01\x02\x05\x01"},
		{api.Ask{Func: 1, Read: 19, Count: 19}, []int{1, 0, 1, 1, 0, 0, 1, 1, 1, 1, 0, 1, 0, 1, 1, 0, 1, 0, 1}, "\x01\x03\xcd\x6b\x05"},
		{api.Ask{Func: 2, Read: 65528, Count: 8}, []int{1, 0, 1, 1, 0, 0, 1, 1}, "\x02\x01\xcd"},
		{api.Ask{Func: 2, Read: 196, Count: 22}, []int{0, 0, 1, 1, 0, 1, 0, 1, 1, 1, 0, 1, 1, 0, 1, 1, 1, 0, 1, 0, 1, 1}, "\x02\x03\xac\xdb\x35"},
		{api.Ask{Func: 3, Read: 100, Count: 2}, []int{7, 8}, "\x03\x04\x00\x07\x00\x08"},
		{api.Ask{Func: 3, Read: 107, Count: 3}, []int{555, 0, 100}, "\x03\x06\x02\x2b\x00\x00\x00\x64"},
		{api.Ask{Func: 4, Read: 8, Count: 1}, []int{10}, "\x04\x02\x00\x0a"},
		{api.Ask{Func: 4, Read: 65534, Count: 2}, []int{65535, 4660}, "\x04\x04\xff\xff\x12\x34"},
		{api.Ask{Func: 5, Write: 172, Many: 1, Values: []int{1}}, nil, "\x05\x00\xac\xff\x00"},
		{api.Ask{Func: 5, Write: 65535, Many: 1, Values: []int{0}}, nil, "\x05\xff\xff\x00\x00"},
		{api.Ask{Func: 6, Write: 5, Many: 1, Values: []int{258}}, nil, "\x06\x00\x05\x01\x02"},
		{api.Ask{Func: 6, Write: 513, Many: 1, Values: []int{65535}}, nil, "\x06\x02\x01\xff\xff"},
		{api.Ask{Func: 15, Write: 5, Many: 2, Values: []int{1, 1}}, nil, "\x0f\x00\x05\x00\x02"},
		{api.Ask{Func: 15, Write: 63568, Many: 1968, Values: make([]int, 1968)}, nil, "\x0f\xf8\x50\x07\xb0"},
		{api.Ask{Func: 16, Write: 1, Many: 2, Values: []int{10, 258}}, nil, "\x10\x00\x01\x00\x02"},
		{api.Ask{Func: 16, Write: 65413, Many: 123, Values: make([]int, 123)}, nil, "\x10\xff\x85\x00\x7b"},
		{api.Ask{Func: 22, Write: 4, Many: 1, Values: []int{242, 37}}, nil, "\x16\x00\x04\x00\xf2\x00\x25"},
		{api.Ask{Func: 22, Write: 65535, Many: 1, Values: []int{65535, 0}}, nil, "\x16\xff\xff\xff\xff\x00\x00"},
		{api.Ask{Func: 23, Read: 3, Count: 6, Write: 14, Many: 3, Values: []int{255, 255, 255}}, []int{254, 2765, 1, 3, 13, 255}, "\x17\x0c\x00\xfe\x0a\xcd\x00\x01\x00\x03\x00\x0d\x00\xff"},
		{api.Ask{Func: 23, Read: 0, Count: 1, Write: 0, Many: 1, Values: []int{7}}, []int{65280}, "\x17\x02\xff\x00"},
	}
}

func chr(l ...int) string {
	b := []byte{}
	for _, n := range l {
		b = append(b, byte(n))
	}
	return string(b)
}

// two works numbers' bytes out by division, for what two bytes hold.
func two(l ...int) string {
	s := ""
	for _, n := range l {
		s += chr(n/256, n%256)
	}
	return s
}

// packed makes the bytes of bits by adding up what each is worth.
func packed(l []int) string {
	s := ""
	for piece := range slices.Chunk(l, 8) {
		sum, worth := 0, 1
		for _, bit := range piece {
			sum, worth = sum+bit*worth, worth*2
		}
		s += chr(sum)
	}
	return s
}

// laidOut lays a response as the chapter says, also to a request that may not be, as far as its numbers fit.
func laidOut(a api.Ask, data []int) string {
	switch a.Func {
	case 1, 2:
		s := packed(data)
		return chr(a.Func, len(s)) + s
	case 3, 4, 23:
		s := two(data...)
		return chr(a.Func, len(s)) + s
	case 5:
		if slices.Equal(a.Values, []int{1}) {
			return "\x05" + two(a.Write) + "\xff\x00"
		}
		return "\x05" + two(a.Write) + "\x00\x00"
	case 6, 22:
		return chr(a.Func) + two(a.Write) + two(a.Values...)
	}
	return chr(a.Func) + two(a.Write, a.Many)
}

// told works out the data of a normal response to a request that may be, byte by byte, and whether s is one.
func told(a api.Ask, s string) ([]int, bool) {
	if !slices.ContainsFunc(rows, func(r row) bool { return r.fc == a.Func }) {
		return nil, s == laidOut(a, nil)
	}
	if len(s) < 2 || int(s[0]) != a.Func || int(s[1]) != len(s)-2 {
		return nil, false
	}
	data, body := []int{}, s[2:]
	if a.Func > 2 {
		for len(body) >= 2 {
			data, body = append(data, int(body[0])*256+int(body[1])), body[2:]
		}
		return data, body == "" && len(data) == a.Count
	}
	for i := range len(body) {
		n := int(body[i])
		for range 8 {
			data, n = append(data, n%2), n/2
		}
	}
	if len(data) < a.Count || len(data) >= a.Count+8 {
		return nil, false
	}
	return data[:a.Count], !slices.Contains(data[a.Count:], 1)
}

// isException works out whether s is an exception of the function.
func isException(fc int, s string) bool {
	return len(s) == 2 && int(s[0]) == fc+128 && slices.Contains(known, int(s[1]))
}

// equal holds all fields of two requests against each other.
func equal(a, b api.Ask) bool {
	return slices.Equal([]int{a.Func, a.Read, a.Count, a.Write, a.Many}, []int{b.Func, b.Read, b.Count, b.Write, b.Many}) && slices.Equal(a.Values, b.Values)
}

// The first wrong answer ends a test: the loops over many texts would tell thousands of them.
func wantMake(t *testing.T, a api.Ask, data []int, want string) {
	t.Helper()
	if s, ok := Make(a, data); s != want || !ok {
		t.Fatalf("Make(%v, %v) = %q, %v; want %q", a, data, s, ok, want)
	}
}

func wantNoMake(t *testing.T, a api.Ask, data []int) {
	t.Helper()
	if s, ok := Make(a, data); s != "" || ok {
		t.Fatalf("Make(%v, %v) = %q, %v; want none", a, data, s, ok)
	}
}

func wantFault(t *testing.T, fc, code int, want string, good bool) {
	t.Helper()
	if s, ok := Fault(fc, code); s != want || ok != good {
		t.Fatalf("Fault(%d, %d) = %q, %v; want %q, %v", fc, code, s, ok, want, good)
	}
}

func wantKind(t *testing.T, a api.Ask, s string, want int) {
	t.Helper()
	if got := Kind(a, s); got != want {
		t.Fatalf("Kind(%v, %q) = %d; want %d", a, s, got, want)
	}
}

func wantData(t *testing.T, a api.Ask, s string, want []int, good bool) {
	t.Helper()
	if l, ok := Data(a, s); !slices.Equal(l, want) || ok != good {
		t.Fatalf("Data(%v, %q) = %v, %v; want %v, %v", a, s, l, ok, want, good)
	}
}

// wantNormal holds data and a normal response against each other, there and back.
func wantNormal(t *testing.T, a api.Ask, data []int, s string) {
	t.Helper()
	wantMake(t, a, data, s)
	wantKind(t, a, s, 1)
	wantData(t, a, s, data, true)
}

// wantOther asks for a text that is no normal response: an exception, or nothing.
func wantOther(t *testing.T, a api.Ask, s string, kind int) {
	t.Helper()
	wantKind(t, a, s, kind)
	wantData(t, a, s, nil, false)
}

// wantTold asks of any text, to a request that may be, what is worked out of it.
func wantTold(t *testing.T, a api.Ask, s string) {
	t.Helper()
	data, ok := told(a, s)
	switch {
	case ok:
		wantNormal(t, a, data, s)
	case isException(a.Func, s):
		wantOther(t, a, s, 2)
	default:
		wantOther(t, a, s, 0)
	}
}

// P7.1: Code of all numbers that a byte can hold, of those beside, and of the ends of the type.
func TestCode(t *testing.T) {
	numbers := []int{least, least + 1, -65536, -256, -12, -11, -2, 257, 258, 267, 65537, 1 << 32, 1<<32 + 1, greatest - 1, greatest}
	for n := -1; n <= 256; n++ {
		numbers = append(numbers, n)
	}
	for _, n := range numbers {
		if got := Code(n); got != slices.Contains(known, n) {
			t.Fatalf("Code(%d) = %v", n, got)
		}
	}
}

// P7.1: Fault of all functions that there may be, with each code.
func TestFault(t *testing.T) {
	wantFault(t, 3, 11, "\x83\x0b", true)
	wantFault(t, 1, 1, "\x81\x01", true)
	wantFault(t, 127, 10, "\xff\x0a", true)
	for fc := 1; fc <= 127; fc++ {
		for _, code := range known {
			wantFault(t, fc, code, chr(fc+128, code), true)
		}
	}
}

// P7.1: Fault of functions that may not be, with codes and others.
func TestFaultRefusesFunctions(t *testing.T) {
	for _, fc := range []int{least, least + 1, -65536, -255, -253, -128, -127, -3, -2, -1, 0, 128, 129, 131, 254, 255, 256, 257, 259, 65539, 1 << 32, 1<<32 + 3, greatest - 1, greatest} {
		for code := -1; code <= 256; code++ {
			wantFault(t, fc, code, "", false)
		}
	}
}

// P7.1: Fault with what is no code.
func TestFaultRefusesCodes(t *testing.T) {
	codes := []int{least, least + 1, -65535, -255, greatest - 1, greatest, 1<<32 + 1, 65537, 257}
	for code := -1; code <= 256; code++ {
		if !slices.Contains(known, code) {
			codes = append(codes, code)
		}
	}
	for _, code := range codes {
		for fc := -1; fc <= 128; fc++ {
			wantFault(t, fc, code, "", false)
		}
	}
}

// P7.1: requests of all functions, data, and their normal responses.
func TestSamples(t *testing.T) {
	for _, one := range samples() {
		wantNormal(t, one.a, one.data, one.s)
	}
}

// P7.1: the least and the greatest Count, and those around a byte's end, with their data.
func TestEndsOfCount(t *testing.T) {
	for _, r := range rows {
		for _, count := range []int{1, 2, 7, 8, 9, 15, 16, 17, 124, r.count - 1, r.count} {
			a, data := r.ask(count), filled(count, r.top)
			wantNormal(t, a, data, laidOut(a, data))
			none := make([]int, count)
			wantNormal(t, a, none, laidOut(a, none))
		}
	}
	// Written out, so that the number of bytes is not worked out alone.
	wantMake(t, rows[0].ask(2000), make([]int, 2000), "\x01\xfa"+strings.Repeat("\x00", 250))
	wantMake(t, rows[2].ask(125), make([]int, 125), "\x03\xfa"+strings.Repeat("\x00", 250))
	wantMake(t, rows[0].ask(1993), make([]int, 1993), "\x01\xfa"+strings.Repeat("\x00", 250))
	wantMake(t, rows[0].ask(1992), make([]int, 1992), "\x01\xf9"+strings.Repeat("\x00", 249))
}

// P7.1: data one too few, one too many, none, and more.
func TestMakeRefusesOtherNumbersOfData(t *testing.T) {
	for _, r := range rows {
		for _, count := range []int{1, 2, 8, 9, r.count} {
			for _, other := range []int{0, 1, count - 1, count + 1, count + 7, count + 8, 2 * count, 256 + count} {
				if other != count {
					wantNoMake(t, r.ask(count), filled(other, r.top))
					wantNoMake(t, r.ask(count), make([]int, other))
				}
			}
			wantNoMake(t, r.ask(count), nil)
		}
	}
}

// P7.1: data where there may be none; an empty list is none.
func TestMakeRefusesDataOfWhatWrites(t *testing.T) {
	for _, one := range samples() {
		if one.a.Count > 0 {
			continue
		}
		wantNormal(t, one.a, []int{}, one.s)
		for _, data := range [][]int{{0}, {1}, {0, 0}, {-1}, {65536}, {greatest}, one.a.Values, filled(one.a.Many+1, 1)} {
			wantNoMake(t, one.a, data)
		}
	}
}

// P7.1: one of the data at an end of what it may be, and one below and one above, at the first place, the last one and in the middle.
func TestEndsOfData(t *testing.T) {
	for _, r := range rows {
		for _, count := range []int{1, 2, 3, 9, r.count} {
			a := r.ask(count)
			for _, at := range []int{0, count / 2, count - 1} {
				for _, n := range []int{0, 1, r.top - 1, r.top} {
					data := filled(count, r.top)
					data[at] = n
					wantNormal(t, a, data, laidOut(a, data))
				}
				for _, n := range []int{least, -65536, -65535, -256, -2, -1, r.top + 1, r.top + 2, 65536, 65537, 1 << 32, 1<<32 + 1, greatest} {
					data := filled(count, r.top)
					data[at] = n
					wantNoMake(t, a, data)
				}
			}
		}
	}
}

// badAsks answers requests that may not be, each but for one thing like one that may.
func badAsks() []api.Ask {
	l := []api.Ask{{}, {Func: 7, Read: 1, Count: 1}, {Func: 0, Count: 1}, {Func: -3, Count: 1}, {Func: 131, Count: 1}, {Func: 259, Count: 1}, {Func: least, Count: 1}, {Func: greatest, Count: 1}}
	for _, r := range rows {
		for _, count := range []int{least, -1, 0, r.count + 1, 2048, 1 << 41, greatest} {
			l = append(l, r.ask(count))
		}
		for _, read := range []int{least, -1, 65535, 65536, greatest} {
			a := r.ask(2)
			a.Read = read
			l = append(l, a)
		}
		a := r.ask(2)
		a.Write = 70000
		b := r.ask(2)
		b.Values = []int{1, 2, 3}
		l = append(l, a, b)
	}
	for _, one := range samples() {
		if one.a.Many == 0 {
			continue
		}
		a, b, c, d, e := one.a, one.a, one.a, one.a, one.a
		a.Values = append(slices.Clone(a.Values), 0)
		b.Values = b.Values[1:]
		c.Values = slices.Clone(c.Values)
		c.Values[0] = 65536
		d.Many++
		e.Write = -1
		l = append(l, a, b, c, d, e)
		if one.a.Count == 0 {
			a, b = one.a, one.a
			a.Count = 1
			b.Read = 1
			l = append(l, a, b)
		}
	}
	return l
}

// P7.1: to a request that may not be there is no response, neither what would be one, nor an exception.
func TestRequestsThatMayNotBe(t *testing.T) {
	for _, a := range badAsks() {
		size := min(max(a.Count, 0), 2048)
		lists := [][]int{nil, {0}, {1}, {7, 8}, make([]int, size), filled(size, 1)}
		for _, data := range lists {
			wantNoMake(t, a, data)
			wantOther(t, a, laidOut(a, data), 0)
		}
		for _, s := range []string{"", chr(a.Func), chr(a.Func, 0), chr(a.Func, 1, 0), chr(a.Func, 2, 0, 0)} {
			wantOther(t, a, s, 0)
		}
		for code := range 256 {
			wantOther(t, a, chr(a.Func+128, code), 0)
			wantOther(t, a, chr(a.Func, code), 0)
		}
		for _, one := range samples() {
			wantOther(t, a, one.s, 0)
		}
	}
}

// P7.1: a normal response that is cut off at any place is none.
func TestCutOff(t *testing.T) {
	for _, one := range samples() {
		for size := range len(one.s) {
			wantOther(t, one.a, one.s[:size], 0)
			wantOther(t, one.a, one.s[len(one.s)-size:], 0)
		}
	}
	for _, r := range rows {
		a := r.ask(r.count)
		s := laidOut(a, filled(r.count, r.top))
		for size := range len(s) {
			wantOther(t, a, s[:size], 0)
		}
	}
}

// P7.1: a normal response with bytes behind it, or ahead of it, is none.
func TestOneByteMore(t *testing.T) {
	for _, one := range samples() {
		for b := range 256 {
			wantOther(t, one.a, one.s+chr(b), 0)
			wantOther(t, one.a, chr(b)+one.s, 0)
		}
		wantOther(t, one.a, one.s+"\x00\x00", 0)
		wantOther(t, one.a, one.s+one.s, 0)
	}
}

// P7.1: a normal response with one byte changed is one of other data, or none.
func TestOneByteChanged(t *testing.T) {
	for _, one := range samples() {
		for at := range len(one.s) {
			for b := range 256 {
				s := one.s[:at] + chr(b) + one.s[at+1:]
				wantTold(t, one.a, s)
				// What comes back, and what stands ahead of data, has no other way to be.
				if s != one.s && (at < 2 || one.a.Count == 0) {
					wantOther(t, one.a, s, 0)
				}
			}
		}
	}
}

// P7.1: a response to one function's request isn't one to another's.
func TestResponsesOfOtherRequests(t *testing.T) {
	for _, one := range samples() {
		for _, other := range samples() {
			wantTold(t, one.a, other.s)
			if one.a.Func != other.a.Func {
				wantOther(t, one.a, other.s, 0)
			}
		}
	}
	d := api.Ask{Func: 6, Write: 5, Many: 1, Values: []int{258}}
	wantOther(t, d, "\x06\x00\x05\x01\x03", 0)
	wantOther(t, d, "\x06\x00\x06\x01\x02", 0)
	wantOther(t, api.Ask{Func: 5, Write: 0, Many: 1, Values: []int{1}}, "\x05\x00\x00\x00\x00", 0)
	wantOther(t, api.Ask{Func: 5, Write: 0, Many: 1, Values: []int{0}}, "\x05\x00\x00\xff\x00", 0)
	wantOther(t, api.Ask{Func: 15, Write: 0, Many: 9, Values: make([]int, 9)}, "\x0f\x00\x00\x00\x09\x02\x00\x00", 0)
	wantOther(t, api.Ask{Func: 16, Write: 0, Many: 1, Values: []int{7}}, "\x10\x00\x00\x00\x01\x02\x00\x07", 0)
}

// P7.1: to one request, responses to another of its function with more or fewer to read.
func TestResponsesOfOtherCounts(t *testing.T) {
	for _, r := range rows {
		for _, count := range []int{1, 2, 7, 8, 9, 16, 17, r.count - 1, r.count} {
			for _, other := range []int{1, 2, 7, 8, 9, 10, 15, 16, 17, r.count - 1, r.count} {
				wantTold(t, r.ask(count), laidOut(r.ask(other), make([]int, other)))
				s := laidOut(r.ask(other), filled(other, r.top))
				wantTold(t, r.ask(count), s)
				// Bits fit a greater Count that takes as many bytes; a smaller one leaves the last of them, which isn't 0.
				if other > count || r.top > 1 && other != count || (other+7)/8 != (count+7)/8 {
					wantOther(t, r.ask(count), s, 0)
				}
			}
		}
	}
}

// P7.1: of functions 1 and 2, a bit that is left and isn't 0.
func TestBitsThatAreLeft(t *testing.T) {
	for _, fc := range []int{1, 2} {
		wantOther(t, api.Ask{Func: fc, Count: 9}, chr(fc, 2, 5, 2), 0)
		for count := 1; count <= 24; count++ {
			a := api.Ask{Func: fc, Read: 3, Count: count}
			for _, data := range [][]int{make([]int, count), slices.Repeat([]int{1}, count)} {
				s := laidOut(a, data)
				wantNormal(t, a, data, s)
				last := int(s[len(s)-1])
				for at := (count-1)%8 + 1; at < 8; at++ {
					worth := []int{1, 2, 4, 8, 16, 32, 64, 128}[at]
					wantOther(t, a, s[:len(s)-1]+chr(last+worth), 0)
				}
			}
		}
	}
}

// P7.1: a response whose number of bytes isn't that of the data, whichever of both is as it must be.
func TestNumberOfBytes(t *testing.T) {
	for _, r := range rows {
		for _, count := range []int{1, 2, 3, 9, 120} {
			a := r.ask(count)
			s := laidOut(a, make([]int, count))
			right := len(s) - 2
			for said := range 256 {
				body := s[2:]
				if said != right {
					wantOther(t, a, chr(r.fc, said)+body, 0)
					wantOther(t, a, chr(r.fc, said)+strings.Repeat("\x00", said), 0)
					wantOther(t, a, chr(r.fc, right)+strings.Repeat("\x00", said), 0)
				}
			}
		}
	}
}

// P7.1: an exception of each code is one, to a request of its function alone.
func TestExceptions(t *testing.T) {
	wantException := func(a api.Ask, fc, code int) {
		want := 0
		if fc == a.Func+128 && slices.Contains(known, code) {
			want = 2
		}
		wantOther(t, a, chr(fc, code), want)
	}
	for _, one := range samples() {
		for n := range 256 {
			wantException(one.a, one.a.Func+128, n)
			wantException(one.a, one.a.Func, n)
			for _, code := range []int{0, 1, 2, 3, 4, 5, 6, 7, 8, 9, 10, 11, 12, 255} {
				wantException(one.a, n, code)
			}
		}
	}
}

// P7.1: an exception has two bytes, not one and not three.
func TestExceptionsOfOtherLengths(t *testing.T) {
	for _, one := range samples() {
		wantOther(t, one.a, "", 0)
		for b := range 256 {
			wantOther(t, one.a, chr(b), 0)
			for _, code := range known {
				wantOther(t, one.a, chr(one.a.Func+128, code, b), 0)
				wantOther(t, one.a, chr(one.a.Func+128, b, code), 0)
				wantOther(t, one.a, chr(b, one.a.Func+128, code), 0)
			}
		}
		wantOther(t, one.a, chr(one.a.Func+128, 2, one.a.Func+128, 2), 0)
		wantOther(t, one.a, chr(one.a.Func+128, 2)+one.s, 0)
		wantOther(t, one.a, one.s+chr(one.a.Func+128, 2), 0)
	}
}

// P7.2: what Fault makes of a request's function is an exception to it, and of no other function.
func TestFaultsThereAndBack(t *testing.T) {
	for _, one := range samples() {
		for fc := 1; fc <= 127; fc++ {
			for _, code := range known {
				s, _ := Fault(fc, code)
				if fc == one.a.Func {
					wantOther(t, one.a, s, 2)
					continue
				}
				wantOther(t, one.a, s, 0)
			}
		}
	}
}

// write makes a request of a function that reads nothing.
func write(fc int, rule *rand.Rand) api.Ask {
	most := map[int]int{15: 1968, 16: 123}[fc]
	many := 1 + rule.Intn(max(most, 1))
	a := api.Ask{Func: fc, Write: rule.Intn(65537 - many), Many: many, Values: make([]int, many)}
	if fc == 22 {
		a.Values = []int{0, 0}
	}
	top := 65536
	if fc == 5 || fc == 15 {
		top = 2
	}
	for i := range a.Values {
		a.Values[i] = rule.Intn(top)
	}
	return a
}

// anyPair makes a request that may be, and data that its response may have.
func anyPair(rule *rand.Rand) (api.Ask, []int) {
	fc := funcs[rule.Intn(len(funcs))]
	for _, r := range rows {
		if r.fc != fc {
			continue
		}
		a := r.ask(1 + rule.Intn(r.count))
		a.Read = rule.Intn(65537 - a.Count)
		data := make([]int, a.Count)
		for i := range data {
			data[i] = rule.Intn(r.top + 1)
		}
		return a, data
	}
	return write(fc, rule), nil
}

// P7.2: many data come back from their responses, and many responses from their data.
func TestThereAndBack(t *testing.T) {
	rule := rand.New(rand.NewSource(7))
	for range 10000 {
		a, data := anyPair(rule)
		wantNormal(t, a, data, laidOut(a, data))
	}
	all := samples()
	for range 100000 {
		one := all[rule.Intn(len(all))]
		b := []byte(one.s)
		for range 1 + rule.Intn(3) {
			b[rule.Intn(len(b))] = []byte{0, 1, 2, 3, 4, 127, 128, 131, 255, byte(rule.Intn(256))}[rule.Intn(10)]
		}
		wantTold(t, one.a, string(b[:len(b)-rule.Intn(2)*rule.Intn(len(b))]))
	}
}

// P7.2: all texts of one and of two bytes behind a head, as responses to small requests.
func TestShortTexts(t *testing.T) {
	for _, a := range []api.Ask{{Func: 1, Count: 1}, {Func: 1, Count: 8}, {Func: 2, Count: 5}, {Func: 2, Count: 12}, {Func: 3, Count: 1}, {Func: 4, Count: 1}, rows[4].ask(1)} {
		for b := range 256 {
			wantTold(t, a, chr(a.Func, 1, b))
			for c := range 256 {
				wantTold(t, a, chr(a.Func, 2, b, c))
			}
		}
	}
}

// P7.2: nothing is a response of both kinds: no exception is what Make makes, and no exception has data.
func TestNothingIsOfBothKinds(t *testing.T) {
	faults := map[string]bool{}
	for fc := 1; fc <= 127; fc++ {
		for _, code := range known {
			s, _ := Fault(fc, code)
			faults[s] = true
		}
	}
	rule := rand.New(rand.NewSource(2))
	for range 3000 {
		a, data := anyPair(rule)
		s, ok := Make(a, data)
		if !ok || faults[s] {
			t.Fatalf("Make(%v, %v) = %q, %v", a, data, s, ok)
		}
		fault, _ := Fault(a.Func, known[rule.Intn(len(known))])
		wantKind(t, a, s, 1)
		wantOther(t, a, fault, 2)
	}
}

// P7.2: no response has more than 253 bytes: what a request can ask for most has 252, and no longer text is one.
func TestNoResponseIsTooLong(t *testing.T) {
	longest := 0
	for _, r := range rows {
		for count := range r.count + 1 {
			s, _ := Make(r.ask(count), make([]int, count))
			longest = max(longest, len(s))
		}
	}
	if longest != 252 {
		t.Fatalf("the longest response has %d bytes", longest)
	}
	rule := rand.New(rand.NewSource(253))
	for range 3000 {
		a := write([]int{5, 6, 15, 16, 22}[rule.Intn(5)], rule)
		if s, _ := Make(a, nil); len(s) > api.MaxPdu {
			t.Fatalf("Make(%v, nil) has %d bytes", a, len(s))
		}
	}
	for _, one := range samples() {
		for _, size := range []int{250, 251, 252, 253, 254, 255, 256, 257, 258, 1000, 65538, 1 << 20} {
			wantKindOfLong(t, one.a, chr(one.a.Func, size-2)+strings.Repeat("\x00", size-2))
			wantKindOfLong(t, one.a, one.s+strings.Repeat("\x00", size-len(one.s)))
		}
	}
}

// wantKindOfLong is wantOther for texts that are too long to be told.
func wantKindOfLong(t *testing.T, a api.Ask, s string) {
	t.Helper()
	if kind := Kind(a, s); kind != 0 {
		t.Fatalf("Kind of %v and %d bytes = %d", a, len(s), kind)
	}
	if l, ok := Data(a, s); len(l) != 0 || ok {
		t.Fatalf("Data of %v and %d bytes: %d, %v", a, len(s), len(l), ok)
	}
}

// Rule 5: what is handed in stays, its spare room too, whether it is taken or refused.
func TestWhatIsHandedInStays(t *testing.T) {
	for _, one := range samples() {
		for _, last := range []int{0, 1, 2, -1, 65535, 65536} {
			data := append(slices.Clone(one.data), last, 77, 78, 79)
			values := append(slices.Clone(one.a.Values), last, 77, 78, 79)
			for less := range 2 {
				a := one.a
				a.Values = values[:max(len(one.a.Values)-less, 0)]
				before, dataBefore, valuesBefore := a, slices.Clone(data), slices.Clone(values)
				for size := range len(one.data) + 2 {
					Make(a, data[:size])
				}
				Kind(a, one.s)
				Data(a, one.s)
				Kind(a, chr(a.Func+128, 2))
				if !equal(a, before) || !slices.Equal(data, dataBefore) || !slices.Equal(values, valuesBefore) {
					t.Fatalf("%v, %v, %v became %v, %v, %v", before, dataBefore, valuesBefore, a, data, values)
				}
			}
		}
	}
}

// Rules 5 and 6: an answer shares nothing with the next one, nor with what was handed in.
func TestDataAnswersListsOfTheirOwn(t *testing.T) {
	for _, one := range samples() {
		values := slices.Clone(one.a.Values)
		first, _ := Data(one.a, one.s)
		first = first[:cap(first)]
		for i := range first {
			first[i] = 7
		}
		if !slices.Equal(one.a.Values, values) {
			t.Fatalf("an answer shares the values of %v", one.a)
		}
		wantNormal(t, one.a, one.data, one.s)
	}
}
