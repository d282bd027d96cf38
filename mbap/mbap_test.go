package mbap

import (
	"math"
	"math/rand"
	"strings"
	"testing"

	"gatewarden/api"
)

const (
	least    = math.MinInt
	greatest = math.MaxInt
)

// The numbers that may be at their ends, and others beside them; the lowest bits of some wrong ones look like a number that may be.
var (
	ids        = []int{0, 1, 255, 256, 258, 32767, 32768, 65279, 65280, 65534, 65535}
	wrongIds   = []int{least, least + 1, -65536, -65535, -256, -2, -1, 65536, 65537, 65536 + 258, 1 << 31, 1<<32 + 1, greatest - 1, greatest}
	units      = []int{0, 1, 17, 127, 128, 247, 254, 255}
	wrongUnits = []int{least, least + 1, -65536, -256, -255, -2, -1, 256, 257, 256 + 17, 65536, 1 << 31, 1<<32 + 17, greatest - 1, greatest}
	sizes      = []int{1, 2, 5, 127, 128, 247, 248, 249, 250, 252, 253}
	wrongSizes = []int{0, 254, 255, 256, 257, 258, 260, 65534, 65535, 65536, 65537, 65536 + 5, 1 << 20}
)

// sample is a frame and its bytes, worked out by hand.
type sample struct {
	f api.Frame
	s string
}

func samples() []sample {
	return []sample{
		{api.Frame{Id: 1, Unit: 17, Pdu: "\x03\x00\x64\x00\x02"}, "\x00\x01\x00\x00\x00\x06\x11\x03\x00\x64\x00\x02"},
		{api.Frame{Id: 0, Unit: 0, Pdu: "\x00"}, "\x00\x00\x00\x00\x00\x02\x00\x00"},
		{api.Frame{Id: 65535, Unit: 255, Pdu: "\xff"}, "\xff\xff\x00\x00\x00\x02\xff\xff"},
		{api.Frame{Id: 258, Unit: 3, Pdu: "\x83\x02"}, "\x01\x02\x00\x00\x00\x03\x03\x83\x02"},
		{api.Frame{Id: 256, Unit: 128, Pdu: "\x06\x00\x05\x01\x02"}, "\x01\x00\x00\x00\x00\x06\x80\x06\x00\x05\x01\x02"},
		{api.Frame{Id: 32768, Unit: 127, Pdu: "\x00\x01\x00\x00\x00\x02\x00\x00"}, "\x80\x00\x00\x00\x00\x09\x7f\x00\x01\x00\x00\x00\x02\x00\x00"},
		{api.Frame{Id: 513, Unit: 1, Pdu: strings.Repeat("\x10", 252)}, "\x02\x01\x00\x00\x00\xfd\x01" + strings.Repeat("\x10", 252)},
		{api.Frame{Id: 65280, Unit: 254, Pdu: strings.Repeat("\x00", 253)}, "\xff\x00\x00\x00\x00\xfe\xfe" + strings.Repeat("\x00", 253)},
	}
}

// two works numbers' bytes out by division, for what two bytes hold.
func two(l ...int) string {
	b := []byte{}
	for _, n := range l {
		b = append(b, byte(n/256), byte(n%256))
	}
	return string(b)
}

// filled answers n bytes that differ from place to place.
func filled(n int) string {
	b := make([]byte, n)
	for i := range b {
		b[i] = byte(i*7 + 3)
	}
	return string(b)
}

// changed answers s with another byte at a place.
func changed(s string, at int, b byte) string {
	return s[:at] + string([]byte{b}) + s[at+1:]
}

// laidOut lays a frame as the chapter says, as far as its numbers fit.
func laidOut(f api.Frame) string {
	return two(f.Id, 0, len(f.Pdu)+1) + string([]byte{byte(f.Unit)}) + f.Pdu
}

// needed works out what Need answers, byte by byte.
func needed(s string) (int, api.Errno) {
	switch {
	case len(s) < 6:
		return 0, api.OK
	case s[2] != 0 || s[3] != 0 || s[4] != 0 || s[5] < 2 || s[5] > 254:
		return 0, api.ErrFrame
	}
	return 6 + int(s[5]), api.OK
}

// told works out the frame whose bytes s is, byte by byte, and whether it is one's.
func told(s string) (api.Frame, bool) {
	if len(s) < 8 || len(s) > 260 || s[2:5] != "\x00\x00\x00" || int(s[5]) != len(s)-6 {
		return api.Frame{}, false
	}
	return api.Frame{Id: int(s[0])*256 + int(s[1]), Unit: int(s[6]), Pdu: s[7:]}, true
}

// The first wrong answer ends a test: the loops over many frames would tell thousands of them.
func wantRight(t *testing.T, f api.Frame, want bool) {
	t.Helper()
	if got := Right(f); got != want {
		t.Fatalf("Right of Id %d, Unit %d and %d bytes = %v", f.Id, f.Unit, len(f.Pdu), got)
	}
}

func wantNeed(t *testing.T, s string, want int, wrong api.Errno) {
	t.Helper()
	if n, e := Need(s); n != want || e != wrong {
		t.Fatalf("Need(%q) = %d, %d; want %d, %d", s, n, e, want, wrong)
	}
}

func wantGet(t *testing.T, s string, want api.Frame) {
	t.Helper()
	if f, e := Get(s); f != want || e != api.OK {
		t.Fatalf("Get(%q) = %v, %d; want %v", s, f, e, want)
	}
}

// wantNoGet doesn't tell the bytes where they are too many to be read.
func wantNoGet(t *testing.T, s string) {
	t.Helper()
	if f, e := Get(s); f != (api.Frame{}) || e != api.ErrFrame {
		t.Fatalf("Get of %d bytes, %q first: Id %d, Unit %d, %d bytes, %d; want ErrFrame", len(s), s[:min(len(s), 16)], f.Id, f.Unit, len(f.Pdu), e)
	}
}

// wantFrame holds a frame that may be and its bytes against each other, there and back.
func wantFrame(t *testing.T, f api.Frame, s string) {
	t.Helper()
	wantRight(t, f, true)
	if got, ok := Put(f); got != s || !ok {
		t.Fatalf("Put(%v) = %q, %v; want %q", f, got, ok, s)
	}
	wantNeed(t, s, len(s), api.OK)
	wantNeed(t, s[:6], len(s), api.OK)
	wantGet(t, s, f)
}

// wantNoFrame asks for a frame that may not be.
func wantNoFrame(t *testing.T, f api.Frame) {
	t.Helper()
	wantRight(t, f, false)
	if s, ok := Put(f); s != "" || ok {
		t.Fatalf("Put of Id %d, Unit %d and %d bytes: %d bytes, %v; want none", f.Id, f.Unit, len(f.Pdu), len(s), ok)
	}
}

// wantTold asks of any bytes what is worked out of them.
func wantTold(t *testing.T, s string) {
	t.Helper()
	n, e := needed(s)
	wantNeed(t, s, n, e)
	if f, ok := told(s); ok {
		wantFrame(t, f, s)
	} else {
		wantNoGet(t, s)
	}
}

// P8.1: frames and their bytes.
func TestSamples(t *testing.T) {
	for _, one := range samples() {
		wantFrame(t, one.f, one.s)
	}
}

// P8.1: frames that may be, with all numbers and sizes at their ends.
func TestFramesThatMayBe(t *testing.T) {
	for _, id := range ids {
		for _, unit := range units {
			for _, size := range sizes {
				f := api.Frame{Id: id, Unit: unit, Pdu: filled(size)}
				wantFrame(t, f, laidOut(f))
			}
		}
	}
}

// P8.1: each Id, each Unit, and each size of a Pdu that there may be, or is beside these.
func TestEachNumber(t *testing.T) {
	for id := range 65536 {
		f := api.Frame{Id: id, Unit: id % 251, Pdu: "\x2b"}
		wantFrame(t, f, laidOut(f))
	}
	for unit := range 256 {
		f := api.Frame{Id: 65535 - unit, Unit: unit, Pdu: "\x03\x00"}
		wantFrame(t, f, laidOut(f))
	}
	for size := range 300 {
		f := api.Frame{Id: 258, Unit: 17, Pdu: filled(size)}
		if size >= 1 && size <= 253 {
			wantFrame(t, f, laidOut(f))
		} else {
			wantNoFrame(t, f)
		}
	}
}

// P8.1: frames with an Id that may not be, whatever else they have.
func TestIdsThatMayNotBe(t *testing.T) {
	for _, id := range wrongIds {
		for _, unit := range append(units, wrongUnits...) {
			for _, size := range []int{0, 1, 5, 253, 254} {
				wantNoFrame(t, api.Frame{Id: id, Unit: unit, Pdu: filled(size)})
			}
		}
	}
}

// P8.1: frames with a Unit that may not be, whatever else they have.
func TestUnitsThatMayNotBe(t *testing.T) {
	for _, unit := range wrongUnits {
		for _, id := range append(ids, wrongIds...) {
			for _, size := range []int{0, 1, 5, 253, 254} {
				wantNoFrame(t, api.Frame{Id: id, Unit: unit, Pdu: filled(size)})
			}
		}
	}
}

// P8.1: frames with a Pdu of no bytes, or of too many.
func TestPdusThatMayNotBe(t *testing.T) {
	for _, size := range wrongSizes {
		pdu := filled(size)
		for _, id := range append(ids, -1, 65536) {
			for _, unit := range append(units, -1, 256) {
				wantNoFrame(t, api.Frame{Id: id, Unit: unit, Pdu: pdu})
			}
		}
	}
	wantNoFrame(t, api.Frame{})
}

// P8.1: Need of fewer than six bytes, what they are doesn't count.
func TestNeedOfTooFewBytes(t *testing.T) {
	for _, s := range []string{"\x00\x01\x00\x00\x00", "\x00\x00\x00\x01\x00", "\xff\xff\xff\xff\xff", "\x00\x01\x00\x00\xff", "\x00\x00\x00\x00\x00", "\x00\x00\x01\x00\x02"} {
		for size := range 6 {
			wantNeed(t, s[:size], 0, api.OK)
			wantNoGet(t, s[:size])
		}
	}
}

// P8.1: Need by the second number and the third one, whatever stands ahead and behind.
func TestNeedByItsNumbers(t *testing.T) {
	behind := []string{"", "\x00", "\xff", "\x00\x01\x00\x01\x00\x01", filled(6), filled(248), filled(254), filled(255), filled(300), strings.Repeat("\xff", 1000)}
	for _, id := range []int{0, 1, 2, 254, 256, 65535} {
		for _, kind := range []int{0, 1, 2, 255, 256, 257, 32768, 65280, 65535} {
			for _, rest := range []int{0, 1, 2, 3, 6, 127, 128, 253, 254, 255, 256, 257, 258, 259, 260, 262, 510, 512, 514, 32768, 32770, 65280, 65282, 65534, 65535} {
				for _, tail := range behind {
					if kind == 0 && rest >= 2 && rest <= 254 {
						wantNeed(t, two(id, kind, rest)+tail, 6+rest, api.OK)
					} else {
						wantNeed(t, two(id, kind, rest)+tail, 0, api.ErrFrame)
					}
				}
			}
		}
	}
}

// P8.1: Need of each second number, and of each third one.
func TestNeedOfAllNumbers(t *testing.T) {
	for n := range 65536 {
		want, wrong := 0, api.ErrFrame
		if n >= 2 && n <= 254 {
			want, wrong = 6+n, api.OK
		}
		wantNeed(t, two(7, 0, n), want, wrong)
		if n > 0 {
			wantNeed(t, two(0, n, 2)+"\x01\x02", 0, api.ErrFrame)
		}
	}
	wantNeed(t, two(65535, 0, 2), 8, api.OK)
}

// P8.1: Get of a frame's bytes, cut off at each place, or with bytes behind.
func TestGetOfOtherSizes(t *testing.T) {
	wantNoGet(t, "")
	for _, one := range samples() {
		for at := range one.s {
			wantNoGet(t, one.s[:at])
		}
		for _, more := range []string{"\x00", "x", "\xff", "\x00\x00", filled(255), one.s, strings.Repeat("\x00", 65536)} {
			wantNoGet(t, one.s+more)
		}
		for at := 1; at < len(one.s); at++ {
			wantTold(t, one.s[at:])
		}
	}
}

// P8.1: Get of a frame's bytes with another byte at each place: in the first two another Id, in the next four no frame, then another Unit, or Pdu.
func TestGetOfChangedBytes(t *testing.T) {
	for _, one := range samples() {
		for at := range one.s {
			for b := range 256 {
				s := changed(one.s, at, byte(b))
				wantTold(t, s)
				if at >= 2 && at < 6 && s != one.s {
					wantNoGet(t, s)
				}
			}
		}
	}
}

// P8.1: Get where the third number tells how many bytes there are, and another number is wrong, or it is itself.
func TestGetOfNumbersThatMayNotBe(t *testing.T) {
	for rest := range 520 {
		s := two(1, 0, rest) + filled(rest)
		wantTold(t, s)
		if rest < 2 || rest > 254 {
			wantNoGet(t, s)
		}
		for _, kind := range []int{1, 255, 256, 65535} {
			wantNoGet(t, two(1, kind, rest)+filled(rest))
		}
	}
	for _, rest := range []int{65280, 65282, 65534, 65535} {
		wantNoGet(t, two(1, 0, rest)+filled(rest))
	}
}

// P8.1: a third number that goes round at two bytes, or tells the Pdu's bytes, or all of them.
func TestGetOfNumbersThatTellOtherSizes(t *testing.T) {
	for _, size := range sizes {
		tail := "\x11" + filled(size)
		for _, rest := range []int{size - 1, size, size + 2, size + 7, size + 256, size + 257, (size + 1) * 256 % 65536} {
			wantNoGet(t, two(1, 0, rest)+tail)
		}
		wantGet(t, two(1, 0, size+1)+tail, api.Frame{Id: 1, Unit: 17, Pdu: filled(size)})
	}
	wantNoGet(t, two(1, 0, 2)+filled(65538))
	wantNoGet(t, two(1, 0, 254)+filled(65536+254))
}

// P8.2: frames of any kind come back from their bytes.
func TestFramesThereAndBack(t *testing.T) {
	rule := rand.New(rand.NewSource(8))
	for range 5000 {
		pdu := make([]byte, 1+rule.Intn(253))
		rule.Read(pdu)
		f := api.Frame{Id: rule.Intn(65536), Unit: rule.Intn(256), Pdu: string(pdu)}
		s, ok := Put(f)
		if !ok {
			t.Fatalf("Put(%v) is refused", f)
		}
		wantGet(t, s, f)
	}
}

// P8.2: bytes of any kind come back from the frame that they are; others are none.
func TestBytesThereAndBack(t *testing.T) {
	rule, found := rand.New(rand.NewSource(80)), 0
	for range 20000 {
		b := make([]byte, rule.Intn(24))
		for i := range b {
			b[i] = byte(rule.Intn(3))
		}
		if len(b) > 5 && rule.Intn(2) == 0 {
			copy(b[2:], []byte{0, 0, 0, byte(len(b) - 6 + rule.Intn(3)/2)})
		}
		s := string(b)
		wantTold(t, s)
		if f, e := Get(s); e == api.OK {
			found++
			if back, ok := Put(f); back != s || !ok {
				t.Fatalf("Put(Get(%q)) = %q, %v", s, back, ok)
			}
		}
	}
	if found < 1000 {
		t.Fatalf("only %d of the texts are frames", found)
	}
}

// P8.2: a frame has from 8 to 260 bytes: the least and the greatest there are, and no text of another size is one.
func TestNoOtherSizeIsAFrame(t *testing.T) {
	fewest, most := greatest, 0
	for size := range 300 {
		if s, ok := Put(api.Frame{Pdu: filled(size)}); ok {
			fewest, most = min(fewest, len(s)), max(most, len(s))
		}
	}
	if fewest != 8 || most != 260 {
		t.Fatalf("frames have from %d to %d bytes", fewest, most)
	}
	for _, size := range []int{0, 1, 5, 6, 7, 261, 262, 263, 516, 518, 1000, 65541, 65542, 65544, 1 << 20} {
		body := filled(max(size-6, 0))
		for rest := range 520 {
			wantNoGet(t, (two(1, 0, rest) + body)[:size])
		}
		wantNoGet(t, (two(1, 0, len(body)%65536) + body)[:size])
	}
}

// P8.2: the first six bytes of a frame tell how many it has, from six on at each place where it is cut, and with other bytes behind.
func TestSixBytesTellHowMany(t *testing.T) {
	for _, one := range samples() {
		for at := range one.s {
			if at < 6 {
				wantNeed(t, one.s[:at], 0, api.OK)
			} else {
				wantNeed(t, one.s[:at], len(one.s), api.OK)
			}
		}
		for _, next := range samples() {
			wantNeed(t, one.s+next.s, len(one.s), api.OK)
			wantNeed(t, one.s[:6]+next.s, len(one.s), api.OK)
		}
	}
}

// P8.2: what Need tells of any six bytes is how many a frame that begins so has, and no other number is.
func TestNeedIsWhatGetTakes(t *testing.T) {
	for _, kind := range []int{0, 1, 256} {
		for rest := range 300 {
			head := two(513, kind, rest)
			n, e := Need(head)
			for size := range 310 {
				s := head + filled(size)
				if _, wrong := Get(s); (wrong == api.OK) != (e == api.OK && n == len(s)) {
					t.Fatalf("Need(%q) = %d, %d; Get of %d bytes that begin so: %d", head, n, e, len(s), wrong)
				}
			}
		}
	}
}
