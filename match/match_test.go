package match

import (
	"math"
	"math/rand"
	"reflect"
	"slices"
	"strings"
	"testing"

	"gatewarden/api"
)

// ends are numbers that a field or a code may be: small ones, those about 255 and 65535, and the ends of int.
var ends = []int{
	0, 1, 2, 3, 7, 17, 127, 128, 129, 131, 254, 255, 256, 257, 259, 65534, 65535, 65536, 65537, 131072,
	-1, -2, -3, -128, -253, -255, -256, -65535, -65536,
	1<<31 - 1, 1 << 31, 1<<32 - 1, 1 << 32, 1<<32 + 1, 1<<32 + 3, 1 << 40, -1 << 31, -1 << 32,
	math.MaxInt, math.MaxInt - 1, math.MinInt, math.MinInt + 1,
}

// codes are those of exceptions, spelt out here so that they share nothing with what they are held against.
var codes = []int{1, 2, 3, 4, 5, 6, 8, 10, 11}

// sample is a request and a normal response to it, worked out by hand. None of the responses answers another one of the requests.
type sample struct {
	ask api.Ask
	pdu string
}

func samples() []sample {
	return []sample{
		{api.Ask{Func: 1, Read: 19, Count: 19}, "\x01\x03\xcd\x6b\x05"},
		{api.Ask{Func: 2, Read: 65528, Count: 8}, "\x02\x01\xcd"},
		{api.Ask{Func: 3, Read: 100, Count: 2}, "\x03\x04\x00\x07\x00\x08"},
		{api.Ask{Func: 3, Read: 100, Count: 1}, "\x03\x02\x00\x07"},
		{api.Ask{Func: 4, Read: 65535, Count: 1}, "\x04\x02\xff\xff"},
		{api.Ask{Func: 5, Write: 172, Many: 1, Values: []int{1}}, "\x05\x00\xac\xff\x00"},
		{api.Ask{Func: 5, Write: 172, Many: 1, Values: []int{0}}, "\x05\x00\xac\x00\x00"},
		{api.Ask{Func: 6, Write: 5, Many: 1, Values: []int{258}}, "\x06\x00\x05\x01\x02"},
		{api.Ask{Func: 6, Write: 5, Many: 1, Values: []int{259}}, "\x06\x00\x05\x01\x03"},
		{api.Ask{Func: 15, Write: 5, Many: 2, Values: []int{1, 1}}, "\x0f\x00\x05\x00\x02"},
		{api.Ask{Func: 16, Write: 1, Many: 2, Values: []int{10, 258}}, "\x10\x00\x01\x00\x02"},
		{api.Ask{Func: 16, Write: 2, Many: 2, Values: []int{10, 258}}, "\x10\x00\x02\x00\x02"},
		{api.Ask{Func: 22, Write: 4, Many: 1, Values: []int{242, 37}}, "\x16\x00\x04\x00\xf2\x00\x25"},
		{api.Ask{Func: 23, Read: 3, Count: 2, Write: 14, Many: 1, Values: []int{255}}, "\x17\x04\x00\xfe\x0a\xcd"},
	}
}

// chr answers bytes as a text.
func chr(l ...int) string {
	b := []byte{}
	for _, n := range l {
		b = append(b, byte(n))
	}
	return string(b)
}

// waiting answers a request that waits, whose other fields than these are unlike them.
func waiting(outer, unit int, a api.Ask) api.Pending {
	return api.Pending{Outer: outer, Conn: 3, Life: 4, Id: outer ^ 21, Unit: unit, Ask: a, Due: 99}
}

// some answers one request for each sample, with Outers and Units that go up by themselves.
func some() []api.Pending {
	var l []api.Pending
	for k, one := range samples() {
		l = append(l, waiting(40+3*k, 10+k, one.ask))
	}
	return l
}

// answerTo answers the frame of this PDU by which the device answers p, if the PDU is a response to it.
func answerTo(p api.Pending, pdu string) api.Frame {
	return api.Frame{Id: p.Outer, Unit: p.Unit, Pdu: pdu}
}

// The first wrong answer ends a test: the loops over many frames would tell thousands of them.
func wantFind(t *testing.T, l []api.Pending, f api.Frame, want int) {
	t.Helper()
	if k, ok := Find(l, f); k != want || !ok {
		t.Fatalf("Find(%v, %v) = %d, %v; want %d", l, f, k, ok, want)
	}
}

func wantNone(t *testing.T, l []api.Pending, f api.Frame) {
	t.Helper()
	if k, ok := Find(l, f); k != 0 || ok {
		t.Fatalf("Find(%v, %v) = %d, %v; want none", l, f, k, ok)
	}
}

func wantBack(t *testing.T, p api.Pending, f, want api.Frame) {
	t.Helper()
	if got := Back(p, f); got != want {
		t.Fatalf("Back(%v, %v) = %v; want %v", p, f, got, want)
	}
}

func wantFault(t *testing.T, p api.Pending, code int, want api.Frame) {
	t.Helper()
	if f, ok := Fault(p, code); f != want || !ok {
		t.Fatalf("Fault(%v, %d) = %v, %v; want %v", p, code, f, ok, want)
	}
}

func wantNoFault(t *testing.T, p api.Pending, code int) {
	t.Helper()
	if f, ok := Fault(p, code); f != (api.Frame{}) || ok {
		t.Fatalf("Fault(%v, %d) = %v, %v; want none", p, code, f, ok)
	}
}

// P21.1: a normal response answers the request of its number and unit, wherever this stands.
func TestFind(t *testing.T) {
	l := some()
	for k, one := range samples() {
		f := answerTo(l[k], one.pdu)
		wantFind(t, l, f, k)
		wantFind(t, l[k:], f, 0)
		wantFind(t, l[:k+1], f, k)
		wantNone(t, l[:k], f)
		wantNone(t, l[k+1:], f)
		wantNone(t, append(slices.Clone(l[:k]), l[k+1:]...), f)
	}
}

// P21.1: nothing waits.
func TestFindOfNothing(t *testing.T) {
	for _, l := range [][]api.Pending{nil, {}, some()[:0]} {
		wantNone(t, l, api.Frame{})
		for k, one := range samples() {
			wantNone(t, l, answerTo(some()[k], one.pdu))
		}
	}
}

// P21.1: an exception of the request's function answers it, by each code that there is, and by no other one.
func TestFindOfExceptions(t *testing.T) {
	l := some()
	for k, p := range l {
		for code := range 256 {
			f := answerTo(p, chr(p.Ask.Func+128, code))
			if slices.Contains(codes, code) {
				wantFind(t, l, f, k)
			} else {
				wantNone(t, l, f)
			}
			for _, fc := range []int{p.Ask.Func, p.Ask.Func + 127, p.Ask.Func + 129, 128, 255} {
				wantNone(t, l, answerTo(p, chr(fc, code)))
			}
			wantNone(t, l, answerTo(p, chr(p.Ask.Func+128, code, 0)))
		}
		wantNone(t, l, answerTo(p, chr(p.Ask.Func+128)))
	}
}

// P21.1: a frame of another Id, whatever else it has.
func TestFindOfAnotherId(t *testing.T) {
	l := some()
	for k, one := range samples() {
		for _, id := range append([]int{39, 41, 42, l[k].Outer - 1, l[k].Outer + 1, l[k].Outer + 256, l[k].Outer + 65536, l[k].Outer + 1<<32, -l[k].Outer, l[k].Id}, ends...) {
			wantNone(t, l, api.Frame{Id: id, Unit: l[k].Unit, Pdu: one.pdu})
			wantNone(t, l, api.Frame{Id: id, Unit: l[k].Unit, Pdu: chr(one.ask.Func+128, 2)})
		}
	}
}

// P21.1: a frame of another Unit answers nothing, whatever else it has.
func TestFindOfAnotherUnit(t *testing.T) {
	l := some()
	for k, one := range samples() {
		for unit := -1; unit < 258; unit++ {
			if unit == l[k].Unit {
				continue
			}
			wantNone(t, l, api.Frame{Id: l[k].Outer, Unit: unit, Pdu: one.pdu})
			wantNone(t, l, api.Frame{Id: l[k].Outer, Unit: unit, Pdu: chr(one.ask.Func+128, 2)})
		}
		for _, more := range []int{256, 65536, 1 << 32, -256} {
			wantNone(t, l, api.Frame{Id: l[k].Outer, Unit: l[k].Unit + more, Pdu: one.pdu})
		}
	}
}

// P21.1: a frame whose Pdu answers another request than that of its number.
func TestFindOfAnotherResponse(t *testing.T) {
	l := some()
	for k, p := range l {
		for other, one := range samples() {
			if other != k {
				wantNone(t, l, answerTo(p, one.pdu))
			}
			if one.ask.Func != p.Ask.Func {
				wantNone(t, l, answerTo(p, chr(one.ask.Func+128, 2)))
			}
		}
	}
}

// P21.1: no response at all: nothing, cut off, or more behind it.
func TestFindOfNoResponse(t *testing.T) {
	l := some()
	for k, one := range samples() {
		for at := range one.pdu {
			wantNone(t, l, answerTo(l[k], one.pdu[:at]))
			wantNone(t, l, answerTo(l[k], one.pdu[at+1:]))
		}
		for _, more := range []string{"\x00", "x", "\xff", "\x00\x00", one.pdu, strings.Repeat("\x00", 300)} {
			wantNone(t, l, answerTo(l[k], one.pdu+more))
			wantNone(t, l, answerTo(l[k], more+one.pdu))
		}
		for _, pdu := range []string{"", "\x00", "\x80\x02", "\xff\x02", "\x07", strings.Repeat(chr(one.ask.Func), 253)} {
			wantNone(t, l, answerTo(l[k], pdu))
		}
	}
}

// P21.1: the data of a reading may be any; what comes back of a writing must be the request's.
func TestFindGoesByTheRequest(t *testing.T) {
	read := []api.Pending{waiting(9, 1, api.Ask{Func: 3, Read: 100, Count: 1})}
	write := []api.Pending{waiting(9, 1, api.Ask{Func: 6, Write: 100, Many: 1, Values: []int{7}})}
	for n := range 65536 {
		wantFind(t, read, api.Frame{Id: 9, Unit: 1, Pdu: chr(3, 2, n/256, n%256)}, 0)
		if f := (api.Frame{Id: 9, Unit: 1, Pdu: chr(6, 0, 100, n/256, n%256)}); n == 7 {
			wantFind(t, write, f, 0)
		} else {
			wantNone(t, write, f)
		}
		if f := (api.Frame{Id: 9, Unit: 1, Pdu: chr(6, n/256, n%256, 0, 7)}); n == 100 {
			wantFind(t, write, f, 0)
		} else {
			wantNone(t, write, f)
		}
	}
	bits := []api.Pending{waiting(9, 1, api.Ask{Func: 1, Count: 3})}
	for n := range 256 {
		if f := (api.Frame{Id: 9, Unit: 1, Pdu: chr(1, 1, n)}); n < 8 {
			wantFind(t, bits, f, 0)
		} else {
			wantNone(t, bits, f)
		}
	}
}

// P21.1: the greatest responses.
func TestFindOfGreatResponses(t *testing.T) {
	l := []api.Pending{
		waiting(1, 1, api.Ask{Func: 1, Count: 2000}),
		waiting(2, 1, api.Ask{Func: 4, Count: 125}),
		waiting(3, 1, api.Ask{Func: 16, Many: 123, Values: make([]int, 123)}),
	}
	wantFind(t, l, api.Frame{Id: 1, Unit: 1, Pdu: "\x01\xfa" + strings.Repeat("\xff", 250)}, 0)
	wantFind(t, l, api.Frame{Id: 2, Unit: 1, Pdu: "\x04\xfa" + strings.Repeat("\xff", 250)}, 1)
	wantFind(t, l, api.Frame{Id: 3, Unit: 1, Pdu: "\x10\x00\x00\x00\x7b"}, 2)
	wantNone(t, l, api.Frame{Id: 1, Unit: 1, Pdu: "\x01\xfb" + strings.Repeat("\xff", 251)})
	wantNone(t, l, api.Frame{Id: 2, Unit: 1, Pdu: "\x04\xfa" + strings.Repeat("\xff", 249)})
	wantNone(t, l, api.Frame{Id: 2, Unit: 1, Pdu: strings.Repeat("\x04", 1<<20)})
}

// P21.1: the Outer counts, not the client's Id, nor another field that has the number, nor a place.
func TestFindGoesByOuter(t *testing.T) {
	a := api.Ask{Func: 3, Count: 1}
	f := api.Frame{Id: 9, Unit: 1, Pdu: "\x03\x02\x00\x07"}
	wantNone(t, []api.Pending{{Outer: 8, Conn: 9, Life: 9, Id: 9, Unit: 1, Ask: a, Due: 9}}, f)
	wantFind(t, []api.Pending{{Outer: 8, Id: 9, Unit: 1, Ask: a}, {Outer: 9, Id: 8, Unit: 1, Ask: a}}, f, 1)
	wantFind(t, []api.Pending{{Outer: 9, Id: 8, Unit: 1, Ask: a}, {Outer: 8, Id: 9, Unit: 1, Ask: a}}, f, 0)
	f.Id = 0
	wantNone(t, []api.Pending{{Outer: 1, Unit: 1, Ask: a}, {Outer: 2, Unit: 1, Ask: a}}, f)
	wantFind(t, []api.Pending{{Outer: 1, Unit: 1, Ask: a}, {Outer: 0, Unit: 1, Ask: a}}, f, 1)
}

// P21.1: whose the request is, and till when it waits, doesn't count.
func TestFindOfAnyConnAndDue(t *testing.T) {
	f := api.Frame{Id: 9, Unit: 1, Pdu: "\x03\x02\x00\x07"}
	for _, n := range ends {
		wantFind(t, []api.Pending{{Outer: 9, Conn: n, Life: n, Id: n, Unit: 1, Ask: api.Ask{Func: 3, Count: 1}, Due: n}}, f, 0)
	}
}

// P21.1, rule 7: Outers and Units may be any numbers, those too that no frame may have.
func TestFindOfAnyNumbers(t *testing.T) {
	a := api.Ask{Func: 3, Count: 1}
	var l []api.Pending
	for _, outer := range ends {
		l = append(l, waiting(outer, -outer, a))
	}
	for k, outer := range ends {
		wantFind(t, l, api.Frame{Id: outer, Unit: -outer, Pdu: "\x03\x02\x00\x07"}, k)
		wantFind(t, l, api.Frame{Id: outer, Unit: -outer, Pdu: "\x83\x02"}, k)
		wantNone(t, l, api.Frame{Id: outer, Unit: -outer + 1, Pdu: "\x83\x02"})
		wantNone(t, l, api.Frame{Id: outer, Unit: -outer, Pdu: "\x84\x02"})
		for _, unit := range ends {
			one := []api.Pending{waiting(5, unit, a)}
			if f := (api.Frame{Id: 5, Unit: outer, Pdu: "\x83\x02"}); unit == outer {
				wantFind(t, one, f, 0)
			} else {
				wantNone(t, one, f)
			}
		}
	}
}

// P21.1: nothing answers a request that may not be, by layer 7's Kind.
func TestFindOfRequestsThatMayNotBe(t *testing.T) {
	for _, a := range []api.Ask{
		{}, {Func: 3}, {Func: 3, Count: 126}, {Func: 3, Count: -1}, {Func: 3, Read: 65536, Count: 1}, {Func: 3, Read: -1, Count: 1},
		{Func: 3, Count: 1, Write: 1}, {Func: 3, Count: 1, Many: 1}, {Func: 3, Count: 1, Values: []int{0}},
		{Func: 6, Many: 1}, {Func: 6, Many: 1, Values: []int{65536}}, {Func: 6, Many: 2, Values: []int{1, 2}},
		{Func: 7, Count: 1}, {Func: 131, Count: 1}, {Func: -125, Count: 1}, {Func: 259, Count: 1}, {Func: 1<<32 + 3, Count: 1},
		{Func: math.MinInt, Count: math.MinInt, Read: math.MinInt}, {Func: 3, Count: math.MaxInt, Read: math.MaxInt},
	} {
		l := []api.Pending{waiting(9, 1, a)}
		for _, pdu := range []string{"", "\x00", "\x03\x00", "\x03\x02\x00\x07", "\x06\x00\x00\x00\x01", chr(a.Func+128, 2), "\x83\x02", "\x86\x02", "\x87\x02", "\x03\xfc" + strings.Repeat("\x00", 252)} {
			wantNone(t, l, api.Frame{Id: 9, Unit: 1, Pdu: pdu})
		}
	}
}

// P21.1: f with the Id and the Unit of the request, whatever Id and Unit it had.
func TestBack(t *testing.T) {
	p := api.Pending{Outer: 9, Conn: 2, Life: 3, Id: 5, Unit: 17, Ask: api.Ask{Func: 3, Count: 1}, Due: 99}
	wantBack(t, p, api.Frame{Id: 9, Unit: 17, Pdu: "\x03\x02\x00\x07"}, api.Frame{Id: 5, Unit: 17, Pdu: "\x03\x02\x00\x07"})
	wantBack(t, p, api.Frame{Id: 9, Unit: 17, Pdu: "\x83\x02"}, api.Frame{Id: 5, Unit: 17, Pdu: "\x83\x02"})
	wantBack(t, p, api.Frame{Id: 8, Unit: 16, Pdu: "\x84\x02"}, api.Frame{Id: 5, Unit: 17, Pdu: "\x84\x02"})
	wantBack(t, p, api.Frame{}, api.Frame{Id: 5, Unit: 17})
	wantBack(t, api.Pending{}, api.Frame{Id: 9, Unit: 17, Pdu: "x"}, api.Frame{Pdu: "x"})
	wantBack(t, api.Pending{}, api.Frame{}, api.Frame{})
}

// P21.1, rule 7: numbers and texts may be any, those too that no frame may have.
func TestBackOfAnything(t *testing.T) {
	for _, pdu := range []string{"", "\x00", "x", "\xff\xfe", strings.Repeat("\x10", 253), strings.Repeat("\x00", 254), strings.Repeat("q", 70000)} {
		for k, id := range ends {
			unit := ends[(k+7)%len(ends)]
			p := api.Pending{Outer: ends[(k+11)%len(ends)], Conn: 1, Life: 2, Id: id, Unit: unit, Due: 4}
			wantBack(t, p, api.Frame{Id: ends[(k+3)%len(ends)], Unit: ends[(k+5)%len(ends)], Pdu: pdu}, api.Frame{Id: id, Unit: unit, Pdu: pdu})
		}
	}
}

// P21.1: the exception of the request's function and the code, with its Id and Unit.
func TestFault(t *testing.T) {
	p := api.Pending{Outer: 9, Conn: 2, Life: 3, Id: 5, Unit: 17, Ask: api.Ask{Func: 3, Count: 1}, Due: 99}
	wantFault(t, p, 11, api.Frame{Id: 5, Unit: 17, Pdu: "\x83\x0b"})
	wantFault(t, p, 1, api.Frame{Id: 5, Unit: 17, Pdu: "\x83\x01"})
	wantNoFault(t, p, 7)
	wantNoFault(t, p, 0)
	for k, p := range some() {
		for code := -3; code < 260; code++ {
			if slices.Contains(codes, code) {
				wantFault(t, p, code, api.Frame{Id: (40 + 3*k) ^ 21, Unit: 10 + k, Pdu: chr(p.Ask.Func+128, code)})
			} else {
				wantNoFault(t, p, code)
			}
		}
	}
}

// P21.1: each function from 1 to 127 has exceptions, also one that isn't known; others have none.
func TestFaultOfEachFunction(t *testing.T) {
	for fc := -300; fc <= 600; fc++ {
		p := waiting(9, 1, api.Ask{Func: fc})
		for code := range 20 {
			if fc >= 1 && fc <= 127 && slices.Contains(codes, code) {
				wantFault(t, p, code, api.Frame{Id: 9 ^ 21, Unit: 1, Pdu: chr(fc+128, code)})
			} else {
				wantNoFault(t, p, code)
			}
		}
	}
}

// P21.1: the function alone counts: the rest of the request may be anything.
func TestFaultOfRequestsThatMayNotBe(t *testing.T) {
	for _, a := range []api.Ask{{Func: 3}, {Func: 3, Count: 126, Read: -1}, {Func: 3, Values: []int{-1, math.MaxInt}}, {Func: 3, Write: math.MinInt, Many: math.MaxInt}} {
		wantFault(t, waiting(9, 1, a), 4, api.Frame{Id: 9 ^ 21, Unit: 1, Pdu: "\x83\x04"})
		wantNoFault(t, waiting(9, 1, a), 9)
	}
}

// P21.1, rule 7: numbers may be any.
func TestFaultOfAnyNumbers(t *testing.T) {
	for k, id := range ends {
		unit := ends[(k+7)%len(ends)]
		p := api.Pending{Outer: ends[(k+11)%len(ends)], Id: id, Unit: unit, Ask: api.Ask{Func: 127}}
		wantFault(t, p, 10, api.Frame{Id: id, Unit: unit, Pdu: "\xff\x0a"})
		for _, code := range ends {
			if !slices.Contains(codes, code) {
				wantNoFault(t, p, code)
			}
			if p.Ask.Func = code; code < 1 || code > 127 {
				wantNoFault(t, p, 1)
			}
			p.Ask.Func = 127
		}
	}
}

// P21.2: of requests that are alike but for their Outers, a frame answers one alone: that of its number; without that one it answers none.
func TestAnswersOneAlone(t *testing.T) {
	a := api.Ask{Func: 3, Count: 1}
	var l []api.Pending
	for k := range 64 {
		l = append(l, api.Pending{Outer: k * 7 % 64, Conn: 1, Life: 1, Id: 1000 + k, Unit: 1, Ask: a, Due: 5})
	}
	for k, p := range l {
		f := answerTo(p, "\x03\x02\x00\x07")
		wantFind(t, l, f, k)
		wantBack(t, l[k], f, api.Frame{Id: 1000 + k, Unit: 1, Pdu: "\x03\x02\x00\x07"})
		wantNone(t, append(slices.Clone(l[:k]), l[k+1:]...), f)
	}
}

// P21.2: each number that there may be waits, and its response finds it.
func TestFindOfManyRequests(t *testing.T) {
	var l []api.Pending
	for k := range 65536 {
		l = append(l, api.Pending{Outer: 65535 - k, Id: k, Unit: k % 256, Ask: api.Ask{Func: 3, Count: 1}})
	}
	for _, k := range []int{0, 1, 2, 255, 256, 30000, 65534, 65535} {
		f := api.Frame{Id: 65535 - k, Unit: k % 256, Pdu: "\x83\x02"}
		wantFind(t, l, f, k)
		wantBack(t, l[k], f, api.Frame{Id: k, Unit: k % 256, Pdu: "\x83\x02"})
		f.Unit++
		wantNone(t, l, f)
	}
}

// naive tells by the words, from the samples alone, whether f answers p, which asks what the sample does.
func naive(p api.Pending, one sample, f api.Frame) bool {
	isFault := len(f.Pdu) == 2 && int(f.Pdu[0]) == one.ask.Func+128 && slices.Contains(codes, int(f.Pdu[1]))
	return f.Id == p.Outer && f.Unit == p.Unit && (isFault || f.Pdu == one.pdu)
}

// P21.2: lists and frames by chance: what is found is the one request that is answered, and its Id and Unit go back.
func TestByChance(t *testing.T) {
	chance := rand.New(rand.NewSource(212))
	all, found := samples(), 0
	for range 20000 {
		var l []api.Pending
		var asked []sample
		for _, outer := range chance.Perm(1 + chance.Intn(6)) {
			one := all[chance.Intn(len(all))]
			asked = append(asked, one)
			l = append(l, api.Pending{Outer: outer, Id: chance.Intn(65536), Unit: chance.Intn(2), Ask: one.ask})
		}
		pdu := asked[chance.Intn(len(asked))].pdu
		if chance.Intn(2) == 0 {
			pdu = chr(int(pdu[0])+128, chance.Intn(13))
		}
		f, want := api.Frame{Id: chance.Intn(7), Unit: chance.Intn(2), Pdu: pdu}, []int{}
		for k, p := range l {
			if naive(p, asked[k], f) {
				want = append(want, k)
			}
		}
		if len(want) == 0 {
			wantNone(t, l, f)
			continue
		}
		if found++; len(want) != 1 {
			t.Fatalf("%v answers %v of %v", f, want, l)
		}
		wantFind(t, l, f, want[0])
		wantBack(t, l[want[0]], f, api.Frame{Id: l[want[0]].Id, Unit: l[want[0]].Unit, Pdu: pdu})
	}
	if found < 1000 {
		t.Fatalf("only %d of the frames answer a request", found)
	}
}

// P21.2: what Fault makes is an exception that answers the request, if this may be and the frame had its Outer.
func TestFaultAnswers(t *testing.T) {
	l := some()
	for k, p := range l {
		for _, code := range codes {
			f, ok := Fault(p, code)
			if !ok || f.Id != p.Id || f.Unit != p.Unit {
				t.Fatalf("Fault(%v, %d) = %v, %v", p, code, f, ok)
			}
			wantFind(t, l, answerTo(p, f.Pdu), k)
			wantBack(t, p, answerTo(p, f.Pdu), f)
		}
	}
}

// everything answers copies of l, with the room behind it and behind its values.
func everything(l []api.Pending) []api.Pending {
	all := slices.Clone(l[:cap(l)])
	for k, p := range all {
		all[k].Ask.Values = slices.Clone(p.Ask.Values[:cap(p.Ask.Values)])
	}
	return all
}

// Rule 5: what is handed in stays, its spare room too.
func TestWhatIsHandedInStays(t *testing.T) {
	whole := append(some(), some()...)
	for k := range whole {
		whole[k].Ask.Values = append(slices.Clone(whole[k].Ask.Values), 97, 98, 99)[:len(whole[k].Ask.Values)]
	}
	before, l := everything(whole), whole[:len(samples())]
	for k, one := range samples() {
		f := answerTo(l[k], one.pdu)
		wantFind(t, l, f, k)
		wantNone(t, l, api.Frame{Id: 1, Unit: l[k].Unit, Pdu: one.pdu})
		Back(l[k], f)
		Fault(l[k], 11)
		Fault(l[k], 7)
	}
	if !reflect.DeepEqual(everything(whole), before) {
		t.Fatalf("behind the calls: %v; want %v", everything(whole), before)
	}
}

// Rules 5 and 6: nothing is kept: a call hangs on its arguments alone, other calls between don't count, nor a change of what was handed in.
func TestNothingIsKept(t *testing.T) {
	p := waiting(9, 1, api.Ask{Func: 6, Many: 1, Values: []int{7}})
	l, f := []api.Pending{p}, api.Frame{Id: 9, Unit: 1, Pdu: "\x06\x00\x00\x00\x07"}
	for range 3 {
		wantFind(t, l, f, 0)
		wantFind(t, l, f, 0)
		wantNone(t, nil, f)
		l[0].Ask.Values[0] = 8
		wantNone(t, l, f)
		l[0].Ask.Values[0] = 7
		l[0].Outer = 8
		wantNone(t, l, f)
		l[0].Outer = 9
		wantFault(t, p, 11, api.Frame{Id: 9 ^ 21, Unit: 1, Pdu: "\x86\x0b"})
		wantNoFault(t, p, 12)
	}
}

// Rule 1: of requests that may not be together nothing is promised but that Find ends, without a panic.
func TestRequestsOfOneOuter(t *testing.T) {
	for _, l := range [][]api.Pending{append(some(), some()...), slices.Repeat(some()[:1], 70), make([]api.Pending, 5)} {
		for k, one := range samples() {
			Find(l, answerTo(some()[k], one.pdu))
			Find(l, api.Frame{Id: l[0].Outer, Unit: l[0].Unit, Pdu: one.pdu})
		}
		Find(l, api.Frame{})
	}
}

// The whole: two clients have one number; by the device's numbers each gets what it asked for, and what isn't answered is told so.
func TestTwoClientsOfOneNumber(t *testing.T) {
	read := api.Ask{Func: 3, Read: 100, Count: 1}
	l := []api.Pending{
		{Outer: 0, Conn: 0, Life: 1, Id: 5, Unit: 17, Ask: read, Due: 9},
		{Outer: 1, Conn: 1, Life: 1, Id: 5, Unit: 17, Ask: read, Due: 9},
	}
	f := api.Frame{Id: 1, Unit: 17, Pdu: "\x03\x02\x00\x07"}
	wantFind(t, l, f, 1)
	wantBack(t, l[1], f, api.Frame{Id: 5, Unit: 17, Pdu: "\x03\x02\x00\x07"})
	wantNone(t, l[:1], f)
	wantFault(t, l[0], 11, api.Frame{Id: 5, Unit: 17, Pdu: "\x83\x0b"})
}
