package stream

import (
	"math/rand"
	"slices"
	"strings"
	"testing"

	"gatewarden/api"
)

// sample is a frame and its bytes, worked out by hand.
type sample struct {
	f api.Frame
	s string
}

func samples() []sample {
	return []sample{
		{api.Frame{Id: 1, Unit: 17, Pdu: "\x03\x00\x64\x00\x02"}, "\x00\x01\x00\x00\x00\x06\x11\x03\x00\x64\x00\x02"},
		{api.Frame{Id: 0, Unit: 0, Pdu: "\x00"}, "\x00\x00\x00\x00\x00\x02\x00\x00"},
		{api.Frame{Id: 65535, Unit: 255, Pdu: "\xff"}, "\xff\xff\x00\x00\x00\x02\xff\xff"},
		{api.Frame{Id: 258, Unit: 3, Pdu: "\x83\x02"}, "\x01\x02\x00\x00\x00\x03\x03\x83\x02"},
		{api.Frame{Id: 32768, Unit: 127, Pdu: "\x00\x01\x00\x00\x00\x02\x00\x00"}, "\x80\x00\x00\x00\x00\x09\x7f\x00\x01\x00\x00\x00\x02\x00\x00"},
		{api.Frame{Id: 513, Unit: 1, Pdu: strings.Repeat("\x10", 252)}, "\x02\x01\x00\x00\x00\xfd\x01" + strings.Repeat("\x10", 252)},
		{api.Frame{Id: 65280, Unit: 254, Pdu: strings.Repeat("\x00", 253)}, "\xff\x00\x00\x00\x00\xfe\xfe" + strings.Repeat("\x00", 253)},
	}
}

// wrongs begin as no frame does: the sixth byte tells it.
func wrongs() []string {
	return []string{
		"\x00\x01\x00\x01\x00\x06", // the protocol isn't 0
		"\x00\x01\x01\x00\x00\x06",
		"\x00\x00\xff\xff\x00\x02",
		"\x00\x01\x00\x00\x00\x00", // the third number is too small
		"\x00\x01\x00\x00\x00\x01",
		"\xff\xff\x00\x00\x00\xff", // or too great
		"\x00\x01\x00\x00\x01\x00",
		"\x00\x01\x00\x00\x01\x06",
		"\x00\x02\x00\x00\xff\xff",
		"\xff\xff\xff\xff\xff\xff",
	}
}

// behinds may follow bytes that are no frame's.
func behinds() []string {
	return []string{"", "\x00", "\x11\x03\x00\x64\x00\x02", samples()[0].s, samples()[1].s + samples()[6].s, wrongs()[0], strings.Repeat("\x00", 300)}
}

// laid lays frames that may be one behind the other.
func laid(l []api.Frame) string {
	var b []byte
	for _, f := range l {
		b = append(b, byte(f.Id/256), byte(f.Id%256), 0, 0, 0, byte(len(f.Pdu)+1), byte(f.Unit))
		b = append(b, f.Pdu...)
	}
	return string(b)
}

// bad is what no bytes bring back.
func bad() api.Stream {
	return api.Stream{Bad: true}
}

// cutUp works out, byte by byte, what all of a stream's bytes make, from its beginning on.
func cutUp(s string) (api.Stream, []api.Frame) {
	var l []api.Frame
	at := 0
	for len(s)-at >= 6 {
		if s[at+2] != 0 || s[at+3] != 0 || s[at+4] != 0 || s[at+5] < 2 || s[at+5] > 254 {
			return bad(), l
		}
		end := at + 6 + int(s[at+5])
		if end > len(s) {
			break
		}
		l = append(l, api.Frame{Id: int(s[at])*256 + int(s[at+1]), Unit: int(s[at+6]), Pdu: s[at+7 : end]})
		at = end
	}
	return api.Stream{Buf: s[at:]}, l
}

// frame makes any frame that may be, more often a short one.
func frame(rule *rand.Rand) api.Frame {
	most := []int{3, 12, 253}[rule.Intn(3)]
	pdu := make([]byte, 1+rule.Intn(most))
	rule.Read(pdu)
	return api.Frame{Id: rule.Intn(65536), Unit: rule.Intn(256), Pdu: string(pdu)}
}

func frames(rule *rand.Rand, n int) []api.Frame {
	l := make([]api.Frame, n)
	for i := range l {
		l[i] = frame(rule)
	}
	return l
}

// messy makes bytes of frames, the beginning of one more, or what begins as none does, and more behind.
func messy(rule *rand.Rand) string {
	s := laid(frames(rule, rule.Intn(6)))
	switch rule.Intn(3) {
	case 0:
		more := laid(frames(rule, 1))
		s += more[:rule.Intn(len(more))]
	case 1:
		s += wrongs()[rule.Intn(len(wrongs()))] + behinds()[rule.Intn(len(behinds()))]
	}
	return s
}

// pieces cuts s anywhere, also into pieces of no bytes.
func pieces(rule *rand.Rand, s string) []string {
	var l []string
	most := []int{2, 9, 300}[rule.Intn(3)]
	for s != "" {
		n := min(rule.Intn(most), len(s))
		l = append(l, s[:n])
		s = s[n:]
	}
	return l
}

// pushed pushes one piece behind the other; on the way each stream must be right and have at most 259 bytes.
func pushed(t *testing.T, s api.Stream, l ...string) (api.Stream, []api.Frame) {
	t.Helper()
	var all []api.Frame
	for _, b := range l {
		next, got := Push(s, b)
		if !Right(next) || len(next.Buf) > 259 {
			t.Fatalf("Push(%#v, %q) leaves %#v", s, b, next)
		}
		s, all = next, append(all, got...)
	}
	return s, all
}

// The first wrong answer ends a test: the loops over many cuts would tell thousands of them.
func want(t *testing.T, from api.Stream, l []string, s api.Stream, of []api.Frame) {
	t.Helper()
	if got, all := pushed(t, from, l...); got != s || !slices.Equal(all, of) {
		t.Fatalf("behind %#v, pieces %q make\n%#v, %#v; want\n%#v, %#v", from, l, got, all, s, of)
	}
}

// wantPush asks for one call alone.
func wantPush(t *testing.T, from api.Stream, b string, s api.Stream, of ...api.Frame) {
	t.Helper()
	want(t, from, []string{b}, s, of)
}

func wantRight(t *testing.T, s api.Stream, right bool) {
	t.Helper()
	if got := Right(s); got != right {
		t.Fatalf("Right(%#v) = %v", s, got)
	}
}

// P9.1: no bytes change no stream, and bring no frame.
func TestPushOfNoBytes(t *testing.T) {
	wantPush(t, api.Stream{}, "", api.Stream{})
	wantPush(t, bad(), "", bad())
	for _, one := range samples() {
		for at := range one.s {
			s := api.Stream{Buf: one.s[:at]}
			wantPush(t, s, "", s)
		}
	}
}

// P9.1: a whole frame goes out of the stream, and nothing is left.
func TestPushOfOneFrame(t *testing.T) {
	for _, one := range samples() {
		wantPush(t, api.Stream{}, one.s, api.Stream{}, one.f)
	}
}

// P9.1: a frame in two pieces, cut at each place: the first one waits, the second one brings it.
func TestFrameInTwoPieces(t *testing.T) {
	for _, one := range samples() {
		for at := range one.s {
			begun := api.Stream{Buf: one.s[:at]}
			wantPush(t, api.Stream{}, one.s[:at], begun)
			wantPush(t, begun, one.s[at:], api.Stream{}, one.f)
		}
	}
}

// P9.1: many frames at once come in order, the same one twice too.
func TestManyFramesAtOnce(t *testing.T) {
	var all []api.Frame
	s := ""
	for _, one := range samples() {
		all, s = append(all, one.f), s+one.s
		wantPush(t, api.Stream{}, s, api.Stream{}, all...)
	}
	slices.Reverse(all)
	wantPush(t, api.Stream{}, laid(all), api.Stream{}, all...)
	for _, n := range []int{2, 64, 1000} {
		l := slices.Repeat([]api.Frame{samples()[1].f, samples()[0].f}, n)
		wantPush(t, api.Stream{}, laid(l), api.Stream{}, l...)
	}
}

// P9.1: frames and the beginning of one more, which waits, whichever it is and wherever it is cut.
func TestFramesAndABeginning(t *testing.T) {
	for _, one := range samples() {
		for _, last := range samples() {
			for at := range last.s {
				begun := api.Stream{Buf: last.s[:at]}
				wantPush(t, api.Stream{}, one.s+one.s+last.s[:at], begun, one.f, one.f)
				wantPush(t, begun, last.s[at:]+one.s+last.s[:at], begun, last.f, one.f)
			}
		}
	}
}

// P9.1: byte by byte, each frame comes with its last byte, and not with one ahead of it.
func TestByteByByte(t *testing.T) {
	var s api.Stream
	for _, one := range samples() {
		for at := range one.s {
			next, got := Push(s, one.s[at:at+1])
			if at+1 < len(one.s) {
				if next.Buf != one.s[:at+1] || next.Bad || len(got) != 0 {
					t.Fatalf("%d bytes of %q make %#v, %#v", at+1, one.s, next, got)
				}
			} else if next != (api.Stream{}) || !slices.Equal(got, []api.Frame{one.f}) {
				t.Fatalf("all bytes of %q make %#v, %#v", one.s, next, got)
			}
			s = next
		}
	}
}

// P9.1: what begins as no frame does is told by its sixth byte, not ahead of it.
func TestBadAtTheSixthByte(t *testing.T) {
	for _, wrong := range wrongs() {
		for at := range wrong {
			begun := api.Stream{Buf: wrong[:at]}
			wantPush(t, api.Stream{}, wrong[:at], begun)
			wantPush(t, begun, wrong[at:], bad())
			if at < 5 {
				wantPush(t, begun, wrong[at:5], api.Stream{Buf: wrong[:5]})
			}
		}
	}
}

// P9.1: bytes that are no frame's, with frames ahead of them, which come, and anything behind them, which doesn't.
func TestBadAmongFrames(t *testing.T) {
	a, b := samples()[0], samples()[6]
	for _, wrong := range wrongs() {
		for _, behind := range behinds() {
			wantPush(t, api.Stream{}, wrong+behind, bad())
			wantPush(t, api.Stream{}, a.s+wrong+behind, bad(), a.f)
			wantPush(t, api.Stream{}, b.s+a.s+wrong+behind, bad(), b.f, a.f)
			wantPush(t, api.Stream{Buf: b.s[:259]}, b.s[259:]+a.s+wrong+behind, bad(), b.f, a.f)
			wantPush(t, api.Stream{Buf: wrong[:5]}, wrong[5:]+behind, bad())
			want(t, api.Stream{}, []string{a.s + wrong, behind, b.s}, bad(), []api.Frame{a.f})
		}
	}
}

// P9.1: the protocol and the third number at their ends: each text that is as long as the number tells is a frame, or makes the stream Bad.
func TestEachThirdNumber(t *testing.T) {
	body := strings.Repeat("\x07", 600)
	for n := range 600 {
		head := string([]byte{1, 2, 0, 0, byte(n / 256), byte(n % 256)})
		if n < 2 || n > 254 {
			wantPush(t, api.Stream{}, head+body[:n], bad())
			continue
		}
		wantPush(t, api.Stream{}, head+body[:n-1], api.Stream{Buf: head + body[:n-1]})
		wantPush(t, api.Stream{}, head+body[:n], api.Stream{}, api.Frame{Id: 258, Unit: 7, Pdu: body[1:n]})
		wantPush(t, api.Stream{}, head+body[:n+1], api.Stream{Buf: "\x07"}, api.Frame{Id: 258, Unit: 7, Pdu: body[1:n]})
		wantPush(t, api.Stream{}, "\x01\x02\x00\x01"+head[4:]+body[:n], bad())
		wantPush(t, api.Stream{}, "\x01\x02\x01\x00"+head[4:]+body[:n], bad())
	}
}

// P9.1: of a stream that is Bad nothing: no bytes make it a stream again.
func TestPushOfABadStream(t *testing.T) {
	for _, b := range append(behinds(), wrongs()...) {
		wantPush(t, bad(), b, bad())
	}
	for _, one := range samples() {
		for at := range one.s {
			want(t, bad(), []string{one.s[:at], one.s[at:], one.s}, bad(), nil)
		}
	}
}

// P9.1: a Bad stream is right without bytes alone.
func TestRightOfABadStream(t *testing.T) {
	wantRight(t, bad(), true)
	for _, b := range append(behinds(), wrongs()...) {
		wantRight(t, api.Stream{Buf: b, Bad: true}, b == "")
	}
	for _, one := range samples() {
		for at := range len(one.s) + 1 {
			wantRight(t, api.Stream{Buf: one.s[:at], Bad: true}, at == 0)
		}
	}
}

// P9.1: the beginnings of a frame are right, up to 259 bytes; a whole frame isn't, nor one with more behind it.
func TestRightOfBeginnings(t *testing.T) {
	longest := samples()[6].s
	for size := range 261 {
		wantRight(t, api.Stream{Buf: longest[:size]}, size <= 259)
	}
	for _, one := range samples() {
		for size := range len(one.s) + 1 {
			wantRight(t, api.Stream{Buf: one.s[:size]}, size < len(one.s))
		}
		for _, behind := range behinds() {
			wantRight(t, api.Stream{Buf: one.s + behind}, false)
		}
	}
}

// P9.1: what begins as no frame does isn't right from its sixth byte on; fewer bytes are, whatever they are.
func TestRightOfWrongBeginnings(t *testing.T) {
	for _, wrong := range wrongs() {
		for at := range wrong {
			wantRight(t, api.Stream{Buf: wrong[:at]}, true)
		}
		for _, behind := range behinds() {
			wantRight(t, api.Stream{Buf: wrong + behind}, false)
			wantRight(t, api.Stream{Buf: wrong + behind, Bad: true}, false)
		}
	}
	for size := range 600 {
		wantRight(t, api.Stream{Buf: strings.Repeat("\xff", size)}, size < 6)
		wantRight(t, api.Stream{Buf: strings.Repeat("\x00", size)}, size < 6)
	}
}

// P9.1: frames that one Push answered stay as they are when the next one answers others, also of one stream twice.
func TestFramesAreTheirOwn(t *testing.T) {
	a, b, c := samples()[0], samples()[1], samples()[3]
	s, first := Push(api.Stream{}, a.s+b.s+c.s[:4])
	_, second := Push(s, c.s[4:]+b.s)
	_, third := Push(s, c.s[4:]+a.s)
	if !slices.Equal(first, []api.Frame{a.f, b.f}) || !slices.Equal(second, []api.Frame{c.f, b.f}) || !slices.Equal(third, []api.Frame{c.f, a.f}) {
		t.Fatalf("%#v, %#v, %#v", first, second, third)
	}
}

// P9.2: cut at any two places, bytes make the same frames and the same stream.
func TestCutAtTwoPlaces(t *testing.T) {
	a, b, c := samples()[0].s, samples()[1].s, samples()[4].s
	for _, s := range []string{a + b + c, a + b + c[:9], b + a + c[:3], a + wrongs()[0] + b, b + b + wrongs()[4] + c, wrongs()[7] + a + a} {
		end, l := cutUp(s)
		for i := range len(s) + 1 {
			for k := i; k <= len(s); k++ {
				want(t, api.Stream{}, []string{s[:i], s[i:k], s[k:]}, end, l)
			}
		}
	}
}

// P9.2: bytes of any kind, cut anyhow, make what they make whole, and byte by byte; a stream never has more than 259 bytes (which want asks for).
func TestCutAnyhow(t *testing.T) {
	rule := rand.New(rand.NewSource(9))
	broken, whole, longest := 0, 0, 0
	for range 3000 {
		s := messy(rule)
		end, l := cutUp(s)
		wantPush(t, api.Stream{}, s, end, l...)
		want(t, api.Stream{}, strings.Split(s, ""), end, l)
		for range 3 {
			want(t, api.Stream{}, pieces(rule, s), end, l)
		}
		if end.Bad {
			broken++
		}
		whole, longest = whole+len(l), max(longest, len(end.Buf))
	}
	if broken < 500 || broken > 2500 || whole < 3000 || longest < 200 {
		t.Fatalf("%d of the texts are broken, they have %d frames, at most %d bytes are left", broken, whole, longest)
	}
}

// P9.2: a stream has as many as 259 bytes, and one more makes a frame of them.
func TestNeverMoreThan259Bytes(t *testing.T) {
	one := samples()[6]
	begun, _ := Push(api.Stream{}, one.s[:259])
	if len(begun.Buf) != 259 {
		t.Fatalf("%d bytes are kept", len(begun.Buf))
	}
	for b := range 256 {
		f := one.f
		f.Pdu = one.f.Pdu[:252] + string([]byte{byte(b)})
		wantPush(t, begun, string([]byte{byte(b)}), api.Stream{}, f)
	}
}

// P9.2: frames' bytes, one behind the other, make these frames, however they are cut.
func TestFramesOutOfTheirBytes(t *testing.T) {
	rule := rand.New(rand.NewSource(92))
	for range 1000 {
		l := frames(rule, rule.Intn(20))
		want(t, api.Stream{}, []string{laid(l)}, api.Stream{}, l)
		want(t, api.Stream{}, pieces(rule, laid(l)), api.Stream{}, l)
	}
	for size := 1; size <= 253; size++ {
		l := []api.Frame{{Id: size, Unit: 255 - size, Pdu: strings.Repeat("\x2b", size)}, {Id: 65535 - size, Unit: size, Pdu: "\x07"}}
		want(t, api.Stream{}, []string{laid(l)}, api.Stream{}, l)
	}
}
