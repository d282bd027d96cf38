package ask

import (
	"math"
	"math/rand"
	"slices"
	"strings"
	"testing"

	"gatewarden/api"
)

const (
	least    = math.MinInt
	greatest = math.MaxInt
)

// row is a row of the chapter's table, spelt out here so that it shares nothing with what it is held against.
type row struct {
	fc     int
	count  int // the greatest Count; 0: Read and Count aren't named
	many   int // the greatest Many; 0: Write, Many and Values aren't named
	values int // how many Values; 0: as many as Many
	top    int // the greatest value
}

var rows = []row{
	{fc: 1, count: 2000},
	{fc: 2, count: 2000},
	{fc: 3, count: 125},
	{fc: 4, count: 125},
	{fc: 5, many: 1, top: 1},
	{fc: 6, many: 1, top: 65535},
	{fc: 15, many: 1968, top: 1},
	{fc: 16, many: 123, top: 65535},
	{fc: 22, many: 1, values: 2, top: 65535},
	{fc: 23, count: 125, many: 121, top: 65535},
}

// sample is a request and its bytes, worked out by hand.
type sample struct {
	a api.Ask
	s string
}

func samples() []sample {
	return []sample{
		{api.Ask{Func: 1, Read: 100, Count: 2000}, "\x01\x00\x64\x07\xd0"},
		{api.Ask{Func: 1, Read: 0, Count: 1}, "\x01\x00\x00\x00\x01"},
		{api.Ask{Func: 2, Read: 258, Count: 772}, "\x02\x01\x02\x03\x04"},
		{api.Ask{Func: 2, Read: 65535, Count: 1}, "\x02\xff\xff\x00\x01"},
		{api.Ask{Func: 3, Read: 100, Count: 2}, "\x03\x00\x64\x00\x02"},
		{api.Ask{Func: 3, Read: 65411, Count: 125}, "\x03\xff\x83\x00\x7d"},
		{api.Ask{Func: 4, Read: 4660, Count: 86}, "\x04\x12\x34\x00\x56"},
		{api.Ask{Func: 5, Write: 1, Many: 1, Values: []int{1}}, "\x05\x00\x01\xff\x00"},
		{api.Ask{Func: 5, Write: 65535, Many: 1, Values: []int{0}}, "\x05\xff\xff\x00\x00"},
		{api.Ask{Func: 6, Write: 1, Many: 1, Values: []int{4660}}, "\x06\x00\x01\x12\x34"},
		{api.Ask{Func: 6, Write: 0, Many: 1, Values: []int{65535}}, "\x06\x00\x00\xff\xff"},
		{api.Ask{Func: 15, Write: 0, Many: 9, Values: []int{1, 0, 1, 0, 0, 0, 0, 0, 1}}, "\x0f\x00\x00\x00\x09\x02\x05\x01"},
		{api.Ask{Func: 15, Write: 65528, Many: 8, Values: []int{1, 0, 1, 1, 0, 0, 1, 1}}, "\x0f\xff\xf8\x00\x08\x01\xcd"},
		{api.Ask{Func: 15, Write: 3, Many: 1, Values: []int{0}}, "\x0f\x00\x03\x00\x01\x01\x00"},
		{api.Ask{Func: 16, Write: 0, Many: 1, Values: []int{7}}, "\x10\x00\x00\x00\x01\x02\x00\x07"},
		{api.Ask{Func: 16, Write: 513, Many: 3, Values: []int{258, 0, 65535}}, "\x10\x02\x01\x00\x03\x06\x01\x02\x00\x00\xff\xff"},
		{api.Ask{Func: 22, Write: 4, Many: 1, Values: []int{242, 37}}, "\x16\x00\x04\x00\xf2\x00\x25"},
		{api.Ask{Func: 22, Write: 65535, Many: 1, Values: []int{65535, 0}}, "\x16\xff\xff\xff\xff\x00\x00"},
		{api.Ask{Func: 23, Read: 3, Count: 6, Write: 14, Many: 1, Values: []int{255}}, "\x17\x00\x03\x00\x06\x00\x0e\x00\x01\x02\x00\xff"},
		{api.Ask{Func: 23, Read: 258, Count: 5, Write: 772, Many: 2, Values: []int{1800, 9}}, "\x17\x01\x02\x00\x05\x03\x04\x00\x02\x04\x07\x08\x00\x09"},
	}
}

// two works a number's bytes out by division, for what two bytes hold.
func two(l ...int) string {
	b := []byte{}
	for _, n := range l {
		b = append(b, byte(n/256), byte(n%256))
	}
	return string(b)
}

// packed makes the bytes of bits by adding up what each is worth.
func packed(l []int) string {
	b := []byte{}
	for piece := range slices.Chunk(l, 8) {
		sum, worth := 0, 1
		for _, bit := range piece {
			sum, worth = sum+bit*worth, worth*2
		}
		b = append(b, byte(sum))
	}
	return string(b)
}

func chr(n int) string {
	return string([]byte{byte(n)})
}

// laid lays the fields of any request as the chapter says, also of one that may not be, as long as its numbers fit.
func laid(a api.Ask) string {
	head, data := chr(a.Func), two(a.Values...)
	switch a.Func {
	case 1, 2, 3, 4:
		return head + two(a.Read, a.Count)
	case 5:
		if a.Values[0] == 1 {
			return head + two(a.Write) + "\xff\x00"
		}
		return head + two(a.Write) + "\x00\x00"
	case 6, 22:
		return head + two(a.Write) + data
	case 15:
		data = packed(a.Values)
		return head + two(a.Write, a.Many) + chr(len(data)) + data
	case 16:
		return head + two(a.Write, a.Many) + chr(len(data)) + data
	}
	return head + two(a.Read, a.Count, a.Write, a.Many) + chr(len(data)) + data
}

// filled answers n values from 0 to top, the first and the last one the greatest.
func filled(n, top int) []int {
	l := make([]int, max(n, 0))
	for i := range l {
		l[i] = (top - i*i*7) & top
	}
	if n > 0 {
		l[n-1] = top
	}
	return l
}

// ask makes a request of the row, of so many that it reads and writes.
func (r row) ask(read, count, write, many int) api.Ask {
	a := api.Ask{Func: r.fc}
	if r.count > 0 {
		a.Read, a.Count = read, count
	}
	if r.many > 0 {
		a.Write, a.Many = write, many
		a.Values = filled(max(r.values, many), r.top)
		if r.values > 0 {
			a.Values = a.Values[:r.values]
		}
	}
	return a
}

// fault works out what Get must answer of the bytes of a, of a row's function and as many values as it must have.
func (r row) fault(a api.Ask) api.Errno {
	if r.count > 0 && (a.Count < 1 || a.Count > r.count) {
		return api.ErrValue
	}
	if r.many > 0 && (a.Many < 1 || a.Many > r.many) {
		return api.ErrValue
	}
	if a.Read+a.Count > 65536 || a.Write+a.Many > 65536 {
		return api.ErrAddr
	}
	return api.OK
}

// eachField goes through a with the value of one field after the other set to n.
func eachField(a api.Ask, n int, do func(a api.Ask)) {
	b := a
	b.Func = n
	do(b)
	b = a
	b.Read = n
	do(b)
	b = a
	b.Count = n
	do(b)
	b = a
	b.Write = n
	do(b)
	b = a
	b.Many = n
	do(b)
	for i := range a.Values {
		b = a
		b.Values = slices.Clone(a.Values)
		b.Values[i] = n
		do(b)
	}
}

// equal is what Same is held against.
func equal(a, b api.Ask) bool {
	return slices.Equal([]int{a.Func, a.Read, a.Count, a.Write, a.Many}, []int{b.Func, b.Read, b.Count, b.Write, b.Many}) && slices.Equal(a.Values, b.Values)
}

// The first wrong answer ends a test: the loops over many requests would tell thousands of them.
func wantKnown(t *testing.T, fc int, want bool) {
	t.Helper()
	if got := Known(fc); got != want {
		t.Fatalf("Known(%d) = %v; want %v", fc, got, want)
	}
}

func wantGood(t *testing.T, a api.Ask, want string) {
	t.Helper()
	if !Right(a) {
		t.Fatalf("Right(%v) = false", a)
	}
	if s, ok := Put(a); s != want || !ok {
		t.Fatalf("Put(%v) = %q, %v; want %q", a, s, ok, want)
	}
}

func wantBad(t *testing.T, a api.Ask) {
	t.Helper()
	if Right(a) {
		t.Fatalf("Right(%v) = true", a)
	}
	if s, ok := Put(a); s != "" || ok {
		t.Fatalf("Put(%v) = %q, %v; want none", a, s, ok)
	}
}

func wantGet(t *testing.T, s string, want api.Ask) {
	t.Helper()
	if a, e := Get(s); !equal(a, want) || e != api.OK {
		t.Fatalf("Get(%q) = %v, %d; want %v", s, a, e, want)
	}
}

func wantError(t *testing.T, s string, want api.Errno) {
	t.Helper()
	if a, e := Get(s); !equal(a, api.Ask{}) || e != want {
		t.Fatalf("Get(%q) = %v, %d; want none, %d", s, a, e, want)
	}
}

func wantSame(t *testing.T, a, b api.Ask, want bool) {
	t.Helper()
	if got := Same(a, b); got != want {
		t.Fatalf("Same(%v, %v) = %v; want %v", a, b, got, want)
	}
	if got := Same(b, a); got != want {
		t.Fatalf("Same(%v, %v) = %v; want %v", b, a, got, want)
	}
}

// wantBoth holds a request and its bytes against each other, there and back.
func wantBoth(t *testing.T, a api.Ask, s string) {
	t.Helper()
	wantGood(t, a, s)
	wantGet(t, s, a)
}

// P6.1: Known of all functions that a byte can hold, of those beside, and of the ends of the type.
func TestKnown(t *testing.T) {
	known := []int{1, 2, 3, 4, 5, 6, 15, 16, 22, 23}
	for fc := -1; fc <= 256; fc++ {
		wantKnown(t, fc, slices.Contains(known, fc))
	}
	for _, fc := range []int{least, least + 1, least + 3, -65535, -3, greatest - 1, greatest} {
		wantKnown(t, fc, false)
	}
	// Numbers whose lowest bits are those of a known one.
	for _, fc := range known {
		for _, far := range []int{-256, 256, 65536, 1 << 32, least} {
			wantKnown(t, fc+far, false)
		}
		wantKnown(t, -fc, false)
	}
}

// P6.1: requests of all functions, and their bytes.
func TestSamples(t *testing.T) {
	for _, one := range samples() {
		wantBoth(t, one.a, one.s)
	}
}

// P6.1: the least and the greatest Count, one less and one more, as a request and as bytes.
func TestEndsOfCount(t *testing.T) {
	for _, r := range rows {
		if r.count == 0 {
			continue
		}
		for _, count := range []int{1, 2, r.count - 1, r.count} {
			a := r.ask(7, count, 9, min(1, r.many))
			wantBoth(t, a, laid(a))
		}
		for _, count := range []int{0, r.count + 1, r.count + 256, 65535} {
			a := r.ask(7, count, 9, min(1, r.many))
			wantBad(t, a)
			wantError(t, laid(a), api.ErrValue)
		}
		for _, count := range []int{least, -65535, -r.count, -1, 65536, 65537, greatest} {
			wantBad(t, r.ask(7, count, 9, min(1, r.many)))
		}
	}
}

// P6.1: the least and the greatest Many, one less and one more, with as many values, as a request and as bytes.
func TestEndsOfMany(t *testing.T) {
	for _, r := range rows {
		// What has one Many alone lays none in its bytes.
		if r.many <= 1 {
			continue
		}
		for _, many := range []int{1, 2, 3, r.many - 1, r.many} {
			a := r.ask(7, 1, 9, many)
			wantBoth(t, a, laid(a))
		}
		for _, many := range []int{0, r.many + 1} {
			a := r.ask(7, 1, 9, many)
			wantBad(t, a)
			wantError(t, laid(a), api.ErrValue)
		}
		for _, many := range []int{-r.many, -1, r.many + 2, 2000, 65535, 65536} {
			wantBad(t, r.ask(7, 1, 9, many))
		}
	}
}

// P6.1: where Many is 1, it is neither 0 nor 2, with whatever values.
func TestManyThatIsOne(t *testing.T) {
	for _, r := range rows {
		if r.many != 1 {
			continue
		}
		for _, many := range []int{least, -1, 0, 2, 3, 257, greatest} {
			for size := range 5 {
				a := r.ask(0, 0, 9, 1)
				a.Many, a.Values = many, filled(size, r.top)
				wantBad(t, a)
			}
		}
	}
}

// P6.1: fields that aren't named are 0, and no values stand where none are named.
func TestFieldsThatAreNotNamed(t *testing.T) {
	for _, r := range rows {
		for _, n := range []int{least, -1, 1, 2, 65535, 65536, greatest} {
			a := r.ask(7, 1, 9, 1)
			if r.count == 0 {
				wantBad(t, api.Ask{Func: r.fc, Read: n, Write: a.Write, Many: a.Many, Values: a.Values})
				wantBad(t, api.Ask{Func: r.fc, Count: n, Write: a.Write, Many: a.Many, Values: a.Values})
				wantBad(t, api.Ask{Func: r.fc, Read: n, Count: 1, Write: a.Write, Many: a.Many, Values: a.Values})
			}
			if r.many == 0 {
				wantBad(t, api.Ask{Func: r.fc, Read: a.Read, Count: a.Count, Write: n})
				wantBad(t, api.Ask{Func: r.fc, Read: a.Read, Count: a.Count, Many: n})
				wantBad(t, api.Ask{Func: r.fc, Read: a.Read, Count: a.Count, Write: 9, Many: 1, Values: []int{n}})
				wantBad(t, api.Ask{Func: r.fc, Read: a.Read, Count: a.Count, Values: []int{n}})
			}
		}
		if r.many == 0 {
			wantBad(t, api.Ask{Func: r.fc, Read: 7, Count: 1, Values: []int{0}})
			a := api.Ask{Func: r.fc, Read: 7, Count: 1, Values: []int{}}
			wantGood(t, a, laid(a))
		}
	}
}

// P6.1: one value too few, one too many, and none.
func TestHowManyValues(t *testing.T) {
	for _, r := range rows {
		if r.many == 0 {
			continue
		}
		for _, many := range []int{1, min(2, r.many), r.many} {
			a := r.ask(7, 1, 9, many)
			size := len(a.Values)
			wantGood(t, a, laid(a))
			for _, other := range []int{0, size - 1, size + 1, size + 8, 2 * size} {
				a.Values = filled(other, r.top)
				wantBad(t, a)
			}
			a.Values = nil
			wantBad(t, a)
		}
	}
}

// P6.1: a value one below and one above what it may be, at the first place, the last one and in the middle.
func TestEndsOfValues(t *testing.T) {
	for _, r := range rows {
		if r.many == 0 {
			continue
		}
		for _, many := range []int{1, min(9, r.many), r.many} {
			a := r.ask(7, 1, 9, many)
			size := len(a.Values)
			for _, at := range []int{0, size / 2, size - 1} {
				for _, n := range []int{0, 1, r.top} {
					a.Values = filled(size, r.top)
					a.Values[at] = n
					wantBoth(t, a, laid(a))
				}
				for _, n := range []int{least, -65535, -2, -1, r.top + 1, r.top + 2, 65536, 1 << 32, 1<<32 + 1, greatest} {
					a.Values = filled(size, r.top)
					a.Values[at] = n
					wantBad(t, a)
				}
			}
		}
	}
}

// P6.1: Read and Count are together at most 65536: beyond, it is no request, and its bytes ErrAddr.
func TestEndsOfWhatIsRead(t *testing.T) {
	for _, r := range rows {
		for _, count := range []int{1, 2, r.count} {
			if r.count == 0 {
				continue
			}
			for _, write := range []int{0, 65535} {
				a := r.ask(65536-count, count, write, 1)
				wantBoth(t, a, laid(a))
				if count > 1 {
					a.Read++
					wantBad(t, a)
					wantError(t, laid(a), api.ErrAddr)
					a.Read = 65535
					wantBad(t, a)
					wantError(t, laid(a), api.ErrAddr)
				}
			}
			for _, read := range []int{least, -65536, -count, -1, 65537 - count, 65536, 65537, 131072, greatest - count, greatest} {
				wantBad(t, r.ask(read, count, 0, 1))
			}
		}
	}
}

// P6.1: Write and Many are together at most 65536, likewise.
func TestEndsOfWhatIsWritten(t *testing.T) {
	for _, r := range rows {
		for _, many := range []int{1, min(2, r.many), r.many} {
			if r.many == 0 {
				continue
			}
			for _, read := range []int{0, 65535} {
				a := r.ask(read, 1, 65536-many, many)
				wantBoth(t, a, laid(a))
				if many > 1 {
					a.Write++
					wantBad(t, a)
					wantError(t, laid(a), api.ErrAddr)
					a.Write = 65535
					wantBad(t, a)
					wantError(t, laid(a), api.ErrAddr)
				}
			}
			for _, write := range []int{least, -65536, -many, -1, 65537 - many, 65536, 65537, 131072, greatest - many, greatest} {
				wantBad(t, r.ask(0, 1, write, many))
			}
		}
	}
}

// P6.1: both parts of function 23 go too far, or one of them.
func TestBothPartsTooFar(t *testing.T) {
	for _, read := range []int{0, 65534, 65535} {
		for _, write := range []int{0, 65534, 65535} {
			a := api.Ask{Func: 23, Read: read, Count: 2, Write: write, Many: 2, Values: []int{1, 2}}
			if read+2 <= 65536 && write+2 <= 65536 {
				wantBoth(t, a, laid(a))
				continue
			}
			wantBad(t, a)
			wantError(t, laid(a), api.ErrAddr)
		}
	}
}

// P6.1: the ends of the type in every field.
func TestEndsOfTheType(t *testing.T) {
	for _, one := range samples() {
		for _, n := range []int{least, least + 1, greatest - 1, greatest} {
			eachField(one.a, n, func(a api.Ask) {
				wantBad(t, a)
				wantSame(t, a, one.a, false)
			})
		}
	}
	for _, n := range []int{least, least + 1, greatest - 1, greatest} {
		for _, fc := range []int{n, 1, 6, 15, 22, 23} {
			wantBad(t, api.Ask{Func: fc, Read: n, Count: n, Write: n, Many: n})
			wantBad(t, api.Ask{Func: fc, Read: n, Count: -n, Write: n, Many: -n, Values: []int{n}})
			wantBad(t, api.Ask{Func: fc, Read: n, Count: n, Write: n, Many: n, Values: []int{n, n}})
		}
	}
}

// P6.1: of a function that isn't known nothing may be, whatever its fields are.
func TestOtherFunctions(t *testing.T) {
	for fc := -1; fc <= 256; fc++ {
		if slices.ContainsFunc(rows, func(r row) bool { return r.fc == fc }) {
			continue
		}
		wantBad(t, api.Ask{Func: fc})
		for _, one := range samples() {
			one.a.Func = fc
			wantBad(t, one.a)
			if fc >= 0 && fc <= 255 {
				wantError(t, chr(fc)+one.s[1:], api.ErrFunc)
			}
		}
	}
	wantBad(t, api.Ask{})
	for _, r := range rows {
		wantBad(t, api.Ask{Func: r.fc})
	}
}

// P6.1: a request of one function isn't one of another, unless the table says the same of both.
func TestFunctionsOfOtherRequests(t *testing.T) {
	for _, one := range samples() {
		for _, r := range rows {
			a := one.a
			a.Func = r.fc
			values := a.Many
			if r.values > 0 {
				values = r.values
			}
			good := (r.count > 0) == (a.Count > 0) && (r.many > 0) == (a.Many > 0) &&
				a.Count <= r.count && a.Many <= r.many && len(a.Values) == values &&
				(r.many == 0 || slices.Max(a.Values) <= r.top)
			if good {
				wantBoth(t, a, laid(a))
			} else {
				wantBad(t, a)
			}
		}
	}
}

// P6.1: Get of no bytes, and of one byte of each kind.
func TestGetOfHardlyAnything(t *testing.T) {
	wantError(t, "", api.ErrFunc)
	for b := range 256 {
		want := api.ErrFunc
		if slices.ContainsFunc(rows, func(r row) bool { return r.fc == b }) {
			want = api.ErrValue
		}
		wantError(t, chr(b), want)
	}
}

// P6.1: Get of a request cut off at each place, and with bytes more.
func TestGetOfCutRequests(t *testing.T) {
	all := samples()
	for _, r := range rows {
		a := r.ask(7, r.count, 9, r.many)
		all = append(all, sample{a, laid(a)})
	}
	for _, one := range all {
		wantGet(t, one.s, one.a)
		for at := 1; at < len(one.s); at++ {
			wantError(t, one.s[:at], api.ErrValue)
		}
		for b := range 256 {
			wantError(t, one.s+chr(b), api.ErrValue)
		}
		wantError(t, one.s+"\x00\x00", api.ErrValue)
		wantError(t, one.s+one.s, api.ErrValue)
		wantError(t, one.s+strings.Repeat("\x00", 256), api.ErrValue)
		wantError(t, one.s+strings.Repeat("\x00", 1<<20), api.ErrValue)
		wantError(t, "\x00"+one.s, api.ErrFunc)
	}
}

// P6.1: ErrFunc goes ahead of ErrValue, and that ahead of ErrAddr.
func TestWhichErrorIsFirst(t *testing.T) {
	for _, rest := range []string{"", "\x00", "\xff\xff\x00\x02", "\xff\xff\x00\x00", "\x00\x00\x00\x01", "\xff\xff\xff\xff"} {
		for _, fc := range []int{0, 7, 14, 17, 21, 24, 43, 127, 128, 129, 131, 255} {
			wantError(t, chr(fc)+rest, api.ErrFunc)
		}
	}
	wantError(t, "\x03\xff\xff\x00\x00", api.ErrValue)
	wantError(t, "\x03\xff\xff\x00\x7e", api.ErrValue)
	wantError(t, "\x03\xff\xff\x00\x7d", api.ErrAddr)
	wantError(t, "\x03\xff\xff\x00\x02\x00", api.ErrValue)
	wantError(t, "\x03\xff\xff\x00", api.ErrValue)
	wantError(t, "\x01\xff\xff\x07\xd1", api.ErrValue)
	wantError(t, "\x01\xff\xff\x07\xd0", api.ErrAddr)
	wantError(t, "\x0f\xff\xff\x00\x02\x01\x04", api.ErrValue)
	wantError(t, "\x0f\xff\xff\x00\x02\x01\x03", api.ErrAddr)
	wantError(t, "\x10\xff\xff\x00\x02\x04\x00\x01\x00", api.ErrValue)
	wantError(t, "\x10\xff\xff\x00\x02\x03\x00\x01\x00\x02", api.ErrValue)
	wantError(t, "\x10\xff\xff\x00\x02\x04\x00\x01\x00\x02", api.ErrAddr)
	wantError(t, "\x17\xff\xff\x00\x02\x00\x00\x00\x00\x00", api.ErrValue)
	wantError(t, "\x17\xff\xff\x00\x02\x00\x00\x00\x01\x02\x00\x01", api.ErrAddr)
	wantError(t, "\x17\xff\xff\x00\x00\xff\xff\x00\x02\x04\x00\x01\x00\x02", api.ErrValue)
	wantError(t, "\x17\x00\x00\x00\x01\xff\xff\x00\x02\x04\x00\x01\x00\x02", api.ErrAddr)
}

// P6.1: of function 5, 0 and 65280 alone stand for a value.
func TestGetOfEachNumberOfACoil(t *testing.T) {
	for n := range 65536 {
		s := "\x05\x12\x34" + two(n)
		switch n {
		case 0:
			wantGet(t, s, api.Ask{Func: 5, Write: 4660, Many: 1, Values: []int{0}})
		case 65280:
			wantGet(t, s, api.Ask{Func: 5, Write: 4660, Many: 1, Values: []int{1}})
		default:
			wantError(t, s, api.ErrValue)
		}
	}
}

// P6.1: of function 6 each number stands for a value, and of 22 each of both.
func TestGetOfEachNumberOfARegister(t *testing.T) {
	for n := range 65536 {
		wantGet(t, "\x06\x12\x34"+two(n), api.Ask{Func: 6, Write: 4660, Many: 1, Values: []int{n}})
		wantGet(t, "\x16\x12\x34"+two(n, 65535-n), api.Ask{Func: 22, Write: 4660, Many: 1, Values: []int{n, 65535 - n}})
		wantGet(t, "\x06"+two(n)+"\x12\x34", api.Ask{Func: 6, Write: n, Many: 1, Values: []int{4660}})
	}
}

// P6.1: of functions 1 to 4 each Count.
func TestGetOfEachCount(t *testing.T) {
	for _, r := range rows[:4] {
		for n := range 65536 {
			a := api.Ask{Func: r.fc, Read: 258, Count: n}
			if n < 1 || n > r.count {
				wantBad(t, a)
				wantError(t, laid(a), api.ErrValue)
				continue
			}
			wantBoth(t, a, laid(a))
		}
	}
}

// P6.1: of function 15, a bit that is left and isn't 0, each alone.
func TestBitsThatAreLeft(t *testing.T) {
	for many := 1; many <= 24; many++ {
		a := api.Ask{Func: 15, Write: 5, Many: many, Values: make([]int, many)}
		s := laid(a)
		wantBoth(t, a, s)
		for left := many; left%8 != 0; left++ {
			bit := 1
			for range left % 8 {
				bit *= 2
			}
			wantError(t, s[:len(s)-1]+chr(bit), api.ErrValue)
		}
	}
	wantError(t, "\x0f\x00\x00\x00\x09\x02\x05\x03", api.ErrValue)
	wantError(t, "\x0f\x00\x00\x00\x09\x02\x05\x81", api.ErrValue)
	wantError(t, "\x0f\x00\x00\x00\x03\x01\x08", api.ErrValue)
}

// P6.1: a number of bytes that isn't that of the values.
func TestNumbersOfBytes(t *testing.T) {
	for _, r := range rows {
		if r.many <= 1 {
			continue
		}
		place := 5
		if r.count > 0 {
			place = 9
		}
		for _, many := range []int{1, 2, 8, 9, r.many} {
			s := laid(r.ask(7, 1, 9, many))
			for n := range 256 {
				if chr(n) != s[place:place+1] {
					wantError(t, s[:place]+chr(n)+s[place+1:], api.ErrValue)
				}
			}
		}
	}
}

// P6.1: as many bytes as are told, but not as many as the values that are told.
func TestNumbersOfValues(t *testing.T) {
	for _, many := range []int{0, 1, 2, 7, 8, 9, 16, 17, 100} {
		for size := range 256 {
			data := strings.Repeat("\x00", size)
			bits := api.Ask{Func: 15, Write: 5, Many: many, Values: make([]int, many)}
			wantFit(t, bits, "\x0f"+two(5, many)+chr(size)+data, many > 0 && size == (many+7)/8)
			regs := api.Ask{Func: 16, Write: 5, Many: many, Values: make([]int, many)}
			wantFit(t, regs, "\x10"+two(5, many)+chr(size)+data, many > 0 && size == 2*many)
			both := api.Ask{Func: 23, Read: 3, Count: 4, Write: 5, Many: many, Values: make([]int, many)}
			wantFit(t, both, "\x17"+two(3, 4, 5, many)+chr(size)+data, many > 0 && size == 2*many)
		}
	}
}

// wantFit asks for the request of s where it fits, and for ErrValue where it doesn't.
func wantFit(t *testing.T, a api.Ask, s string, fits bool) {
	t.Helper()
	if fits {
		wantGet(t, s, a)
	} else {
		wantError(t, s, api.ErrValue)
	}
}

// P6.1: Same of requests, whether they may be or not, and of each with one field unlike.
func TestSameLooksAtAllFields(t *testing.T) {
	all := append(samples(), sample{a: api.Ask{}}, sample{a: api.Ask{Func: 99, Read: -1, Count: -2, Write: -3, Many: -4, Values: []int{-5, least, greatest}}})
	for i, one := range all {
		twin := one.a
		twin.Values = slices.Clone(one.a.Values)
		wantSame(t, one.a, twin, true)
		for _, n := range []int{least, -9, 99999, greatest} {
			eachField(one.a, n, func(a api.Ask) {
				wantSame(t, one.a, a, equal(one.a, a))
			})
		}
		for k, other := range all {
			wantSame(t, one.a, other.a, i == k)
		}
	}
}

// P6.1: Same of one field alone that is unlike.
func TestSameOfOneFieldAlone(t *testing.T) {
	a := api.Ask{Func: 1, Read: 2, Count: 3, Write: 4, Many: 5, Values: []int{6, 7, 8}}
	for _, b := range []api.Ask{
		{Func: 9, Read: 2, Count: 3, Write: 4, Many: 5, Values: []int{6, 7, 8}},
		{Func: 1, Read: 9, Count: 3, Write: 4, Many: 5, Values: []int{6, 7, 8}},
		{Func: 1, Read: 2, Count: 9, Write: 4, Many: 5, Values: []int{6, 7, 8}},
		{Func: 1, Read: 2, Count: 3, Write: 9, Many: 5, Values: []int{6, 7, 8}},
		{Func: 1, Read: 2, Count: 3, Write: 4, Many: 9, Values: []int{6, 7, 8}},
		{Func: 1, Read: 2, Count: 3, Write: 4, Many: 5, Values: []int{9, 7, 8}},
		{Func: 1, Read: 2, Count: 3, Write: 4, Many: 5, Values: []int{6, 9, 8}},
		{Func: 1, Read: 2, Count: 3, Write: 4, Many: 5, Values: []int{6, 7, 9}},
		{Func: 1, Read: 2, Count: 3, Write: 4, Many: 5, Values: []int{8, 7, 6}},
		{Func: 2, Read: 1, Count: 3, Write: 4, Many: 5, Values: []int{6, 7, 8}},
		{Func: 1, Read: 4, Count: 5, Write: 2, Many: 3, Values: []int{6, 7, 8}},
	} {
		wantSame(t, a, b, false)
	}
	wantSame(t, a, a, true)
}

// P6.1: Same of lists of unlike lengths; no list is an empty one.
func TestSameOfListsOfUnlikeLengths(t *testing.T) {
	lists := [][]int{{}, {0}, {0, 0}, {0, 0, 0}, {1}, {1, 0}, {0, 1}}
	for i, l := range lists {
		for k, m := range lists {
			wantSame(t, api.Ask{Func: 16, Values: l}, api.Ask{Func: 16, Values: m}, i == k)
		}
		wantSame(t, api.Ask{Values: l}, api.Ask{}, i == 0)
	}
}

// P6.1 and P6.2: requests of any numbers near an end come back, or their bytes have the error that they must.
func TestNumbersNearTheEnds(t *testing.T) {
	near := func(l ...int) []int {
		var all []int
		for _, n := range l {
			all = append(all, n-1, n, n+1)
		}
		return slices.DeleteFunc(all, func(n int) bool { return n < 0 || n > 65535 })
	}
	for _, r := range rows {
		counts, places := []int{0}, []int{0}
		if r.count > 0 {
			counts = near(0, r.count, 65535)
			places = near(0, 258, 65536-r.count, 65535)
		}
		manys, from := []int{0}, []int{0}
		if r.many > 0 {
			manys, from = near(1, r.many), near(0, 258, 65536-r.many, 65535)
			if r.many == 1 {
				manys = []int{1}
			}
		}
		for _, count := range counts {
			for _, read := range places {
				for _, many := range manys {
					for _, write := range from {
						wantFault(t, r, r.ask(read, count, write, many))
					}
				}
			}
		}
	}
}

// wantFault asks of a, and of its bytes, what the row says.
func wantFault(t *testing.T, r row, a api.Ask) {
	t.Helper()
	if want := r.fault(a); want != api.OK {
		wantBad(t, a)
		wantError(t, laid(a), want)
		return
	}
	wantBoth(t, a, laid(a))
}

// P6.2: many requests come back from their bytes.
func TestRequestsThereAndBack(t *testing.T) {
	rule := rand.New(rand.NewSource(6))
	for range 20000 {
		r := rows[rule.Intn(len(rows))]
		count, many := 1+rule.Intn(max(r.count, 1)), 1+rule.Intn(max(r.many, 1))
		a := r.ask(rule.Intn(65537-count), count, rule.Intn(65537-many), many)
		for i := range a.Values {
			a.Values[i] = rule.Intn(r.top + 1)
		}
		wantBoth(t, a, laid(a))
		b, _ := Get(laid(a))
		wantSame(t, a, b, true)
	}
}

// wantBack asks that s is what Put makes of the request that Get tells of it, or that nothing is told beside the error.
func wantBack(t *testing.T, s string) {
	t.Helper()
	a, e := Get(s)
	if e == api.OK {
		wantGood(t, a, s)
		return
	}
	if !equal(a, api.Ask{}) {
		t.Fatalf("Get(%q) = %v, %d", s, a, e)
	}
	known := s != "" && slices.ContainsFunc(rows, func(r row) bool { return r.fc == int(s[0]) })
	if known && e != api.ErrValue && e != api.ErrAddr || !known && e != api.ErrFunc {
		t.Fatalf("Get(%q): error %d", s, e)
	}
}

// P6.2: texts come back: short ones, and requests' bytes with some of them changed.
func TestTextsThereAndBack(t *testing.T) {
	for b := range 256 {
		for c := range 256 {
			wantBack(t, chr(b)+chr(c))
			wantBack(t, chr(b)+"\x00\x00\x00"+chr(c))
			wantBack(t, chr(b)+"\xff\xff\x00"+chr(c))
			wantBack(t, chr(b)+"\x00\x01"+chr(c)+"\x00")
			wantBack(t, chr(b)+"\x00\x00\x00\x01\x01"+chr(c))
			wantBack(t, chr(b)+"\x00\x00\x00\x01\x02\x00"+chr(c))
		}
	}
	rule := rand.New(rand.NewSource(23))
	all := samples()
	for range 100000 {
		b := []byte(all[rule.Intn(len(all))].s)
		for range 1 + rule.Intn(3) {
			b[rule.Intn(len(b))] = []byte{0, 1, 2, 3, 4, 127, 128, 255, byte(rule.Intn(256))}[rule.Intn(9)]
		}
		wantBack(t, string(b[:len(b)-rule.Intn(2)*rule.Intn(len(b))]))
	}
}

// P6.2: no request has more than 253 bytes, the greatest of each function neither.
func TestNoRequestIsTooLong(t *testing.T) {
	longest := 0
	for _, r := range rows {
		for count := range r.count + 1 {
			a := r.ask(7, count, 9, min(1, r.many))
			s, _ := Put(a)
			longest = max(longest, len(s))
		}
		for many := range r.many + 1 {
			a := r.ask(7, 1, 9, many)
			s, _ := Put(a)
			longest = max(longest, len(s))
		}
	}
	if longest > api.MaxPdu {
		t.Fatalf("a request has %d bytes", longest)
	}
	for _, one := range []struct {
		head string // up to the number of bytes that follow
		good bool   // whether the table allows so many values
	}{
		{"\x0f\x00\x00\x07\xb0\xf6", true},
		{"\x0f\x00\x00\x07\xb8\xf7", false},
		{"\x10\x00\x00\x00\x7b\xf6", true},
		{"\x10\x00\x00\x00\x7c\xf8", false},
		{"\x17\x00\x00\x00\x01\x00\x00\x00\x79\xf2", true},
		{"\x17\x00\x00\x00\x01\x00\x00\x00\x7a\xf4", false},
	} {
		told := int(one.head[len(one.head)-1])
		for size := 240; size <= 260; size++ {
			s := one.head + strings.Repeat("\x00", size)
			if _, e := Get(s); (e == api.OK) != (one.good && size == told) {
				t.Fatalf("Get of %q and %d bytes behind it: error %d", one.head, size, e)
			}
		}
	}
}

// Rule 5: what is handed in stays, its spare room too, whether it is taken or refused.
func TestWhatIsHandedInStays(t *testing.T) {
	for _, r := range rows {
		if r.many == 0 {
			continue
		}
		for _, last := range []int{0, 1, r.top, r.top + 1, -1} {
			a := r.ask(7, 1, 9, min(r.many, 9))
			size := len(a.Values)
			room := append(slices.Clone(a.Values), 77, 78, 79)
			room[size-1] = last
			before := slices.Clone(room)
			a.Values = room[:size]
			b := a
			Right(a)
			Put(a)
			Same(a, b)
			Same(a, r.ask(7, 1, 9, min(r.many, 9)))
			if !slices.Equal(room, before) || !equal(a, b) {
				t.Fatalf("%v became %v", before, room)
			}
		}
	}
}

// Rules 5 and 6: an answer shares nothing with the next one.
func TestGetAnswersListsOfTheirOwn(t *testing.T) {
	for _, one := range samples() {
		first, _ := Get(one.s)
		l := first.Values[:cap(first.Values)]
		for i := range l {
			l[i] = 7
		}
		wantBoth(t, one.a, one.s)
	}
}
