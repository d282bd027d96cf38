package script

import (
	"math"
	"math/rand"
	"slices"
	"strings"
	"testing"

	"gatewarden/api"
)

// sample is an event and its bytes, worked out by hand.
type sample struct {
	e api.Event
	s string
}

func samples() []sample {
	return []sample{
		{api.Event{Kind: api.EvTick}, "\x00\x04\x00\x00\x00\x00\x00\x00"},
		{api.Event{}, "\x00\x00\x00\x00\x00\x00\x00\x00"},
		{api.Event{Kind: api.EvAccept, Client: 255}, "\x00\x01\x00\x00\x00\xff\x00\x00"},
		{api.Event{Kind: api.EvClose, Conn: 15}, "\x00\x03\x00\x0f\x00\x00\x00\x00"},
		{api.Event{Kind: api.EvData, Conn: 1, Data: "abc"}, "\x00\x02\x00\x01\x00\x00\x00\x03abc"},
		{api.Event{Kind: api.EvDevice, Data: "\x00\xff\x80\x00"}, "\x00\x05\x00\x00\x00\x00\x00\x04\x00\xff\x80\x00"},
		{api.Event{Kind: 258, Conn: 513, Client: 1027, Data: "\x00"}, "\x01\x02\x02\x01\x04\x03\x00\x01\x00"},
		{api.Event{Kind: 65535, Conn: 32768, Client: 65280, Data: "\x00\x04\x00\x00\x00\x00\x00\x00"}, "\xff\xff\x80\x00\xff\x00\x00\x08\x00\x04\x00\x00\x00\x00\x00\x00"},
	}
}

// field is one of an event's numbers that stand ahead of its Data.
type field struct {
	name string
	of   func(e *api.Event) *int
}

func fields() []field {
	return []field{
		{"Kind", func(e *api.Event) *int { return &e.Kind }},
		{"Conn", func(e *api.Event) *int { return &e.Conn }},
		{"Client", func(e *api.Event) *int { return &e.Client }},
	}
}

// with answers e with another number in one field.
func (f field) with(e api.Event, n int) api.Event {
	*f.of(&e) = n
	return e
}

// wrong answers numbers that no event has; the lowest 16 bits of some look like a number that it may have.
func wrong() []int {
	return []int{
		-1, -2, -4, -255, -256, -65535, -65536, -1 << 31, -1 << 32, math.MinInt, math.MinInt + 1,
		65536, 65537, 65540, 65536 + 258, 131072, 1 << 24, 1<<31 - 1, 1 << 31, 1<<32 + 4, 1 << 48, math.MaxInt - 1, math.MaxInt,
	}
}

// sizes answers how many bytes Data may have: at the ends, and where another byte, or another bit, tells it.
func sizes() []int {
	return []int{0, 1, 2, 7, 8, 127, 128, 253, 255, 256, 257, 260, 511, 512, 4096, 32767, 32768, 65280, 65534, 65535}
}

// bytesOf works a number's bytes out by division, so that it shares nothing with layer 1.
func bytesOf(n int) string {
	return string([]byte{byte(n / 256), byte(n % 256)})
}

// laidOut works the bytes of events that may be written out.
func laidOut(l []api.Event) string {
	s := ""
	for _, e := range l {
		s += bytesOf(e.Kind) + bytesOf(e.Conn) + bytesOf(e.Client) + bytesOf(len(e.Data)) + e.Data
	}
	return s
}

// told works out the events whose bytes s is, by cutting them off its beginning; or the place of the first one that isn't all there.
func told(s string) ([]api.Event, int, api.Errno) {
	var l []api.Event
	rest := s
	for rest != "" {
		if len(rest) < 8 {
			return nil, len(s) - len(rest), api.ErrFrame
		}
		var n [4]int
		for k := range n {
			n[k] = int(rest[2*k])*256 + int(rest[2*k+1])
		}
		if len(rest) < 8+n[3] {
			return nil, len(s) - len(rest), api.ErrFrame
		}
		l = append(l, api.Event{Kind: n[0], Conn: n[1], Client: n[2], Data: rest[8 : 8+n[3]]})
		rest = rest[8+n[3]:]
	}
	return l, 0, api.OK
}

// short cuts what a message tells of bytes that are too many to be read.
func short(s string) string {
	return s[:min(len(s), 60)]
}

// The first wrong answer ends a test: the loops over many events would tell thousands of them.
func wantRight(t *testing.T, e api.Event, want bool) {
	t.Helper()
	if got := Right(e); got != want {
		t.Fatalf("Right of Kind %d, Conn %d, Client %d, %d bytes: %v; want %v", e.Kind, e.Conn, e.Client, len(e.Data), got, want)
	}
}

func wantGet(t *testing.T, s string, want ...api.Event) {
	t.Helper()
	if l, at, e := Get(s); !slices.Equal(l, want) || at != 0 || e != api.OK {
		t.Fatalf("Get of %d bytes, %q first: %d events, %d, %d; want %d events", len(s), short(s), len(l), at, e, len(want))
	}
}

func wantNoGet(t *testing.T, s string, place int) {
	t.Helper()
	if l, at, e := Get(s); len(l) != 0 || at != place || e != api.ErrFrame {
		t.Fatalf("Get of %d bytes, %q first: %d events, %d, %d; want none, %d, %d", len(s), short(s), len(l), at, e, place, api.ErrFrame)
	}
}

// wantScript holds events that may be written and their bytes against each other, there and back.
func wantScript(t *testing.T, s string, l ...api.Event) {
	t.Helper()
	for _, e := range l {
		wantRight(t, e, true)
	}
	if got, ok := Put(l); got != s || !ok {
		t.Fatalf("Put of %d events = %q first, %d bytes, %v; want %q first, %d bytes", len(l), short(got), len(got), ok, short(s), len(s))
	}
	wantGet(t, s, l...)
}

func wantNoPut(t *testing.T, l ...api.Event) {
	t.Helper()
	if s, ok := Put(l); s != "" || ok {
		t.Fatalf("Put of %d events = %q first, %v; want none", len(l), short(s), ok)
	}
}

// wantTold asks of any bytes what is worked out of them, and answers whether they are events'.
func wantTold(t *testing.T, s string) bool {
	t.Helper()
	l, place, e := told(s)
	if e != api.OK {
		wantNoGet(t, s, place)
		return false
	}
	wantScript(t, s, l...)
	return true
}

// P26.1: events and their bytes; the first one is the chapter's: a tick, 0 4 0 0 0 0 0 0.
func TestSamples(t *testing.T) {
	for _, one := range samples() {
		wantScript(t, one.s, one.e)
	}
}

// P26.1: no events have no bytes.
func TestNoEvents(t *testing.T) {
	wantScript(t, "")
	if s, ok := Put([]api.Event{}); s != "" || !ok {
		t.Fatalf("Put of an empty list = %q, %v", s, ok)
	}
}

// P26.1: each number that Kind, Conn or Client may have stands at its place, whatever the others are.
func TestNumbersThatMayBe(t *testing.T) {
	for _, f := range fields() {
		for _, one := range samples() {
			for n := 0; n < 65536; n += 257 {
				for _, n := range []int{n, 65535 - n, n / 256, n ^ 1} {
					e := f.with(one.e, n)
					wantScript(t, laidOut([]api.Event{e}), e)
				}
			}
		}
	}
}

// P26.1: each number of one field, at one event.
func TestEachNumber(t *testing.T) {
	for _, f := range fields() {
		for n := range 65536 {
			e := f.with(api.Event{Kind: 1, Conn: 2, Client: 3, Data: "x"}, n)
			wantScript(t, laidOut([]api.Event{e}), e)
		}
	}
}

// P26.1: a single number that Kind, Conn or Client may not have is enough.
func TestNumbersThatMayNotBe(t *testing.T) {
	for _, f := range fields() {
		for _, one := range samples() {
			for _, n := range wrong() {
				e := f.with(one.e, n)
				wantRight(t, e, false)
				wantNoPut(t, e)
			}
		}
	}
}

// P26.1: Data has from no bytes to 65535, whatever these are.
func TestSizesThatMayBe(t *testing.T) {
	for _, size := range sizes() {
		for _, b := range []string{"\x00", "x", "\x80", "\xff"} {
			e := api.Event{Kind: api.EvData, Conn: 7, Client: 9, Data: strings.Repeat(b, size)}
			wantScript(t, laidOut([]api.Event{e}), e)
		}
	}
}

// P26.1: Data of more bytes than 65535 can't be written: the lowest 16 bits of how many they are don't count.
func TestSizesThatMayNotBe(t *testing.T) {
	for _, size := range []int{65536, 65537, 65540, 65536 + 258, 131071, 131072, 1 << 20} {
		e := api.Event{Kind: api.EvData, Data: strings.Repeat("x", size)}
		wantRight(t, e, false)
		wantNoPut(t, e)
	}
}

// P26.1: Data of all bytes that there are, which needn't be text.
func TestDataOfAnyBytes(t *testing.T) {
	all := make([]byte, 256)
	for b := range all {
		all[b] = byte(b)
		e := api.Event{Kind: api.EvDevice, Data: string([]byte{byte(b)})}
		wantScript(t, "\x00\x05\x00\x00\x00\x00\x00\x01"+e.Data, e)
	}
	e := api.Event{Kind: api.EvDevice, Data: string(all)}
	wantScript(t, "\x00\x05\x00\x00\x00\x00\x01\x00"+e.Data, e)
}

// P26.1: what an event does at a machine doesn't count here: a tick with Data, a Kind that there isn't, a Conn or Client beyond all.
func TestEventsThatDoNothing(t *testing.T) {
	for _, e := range []api.Event{{Kind: api.EvTick, Data: "x"}, {Kind: 6}, {Kind: 0, Conn: 16}, {Kind: api.EvAccept, Client: 256}, {Kind: api.EvClose, Conn: 65535, Client: 65535, Data: "y"}} {
		wantScript(t, laidOut([]api.Event{e}), e)
	}
}

// P26.1: all events, one behind the other, in order.
func TestMany(t *testing.T) {
	var l []api.Event
	s := ""
	for _, one := range samples() {
		l, s = append(l, one.e), s+one.s
		wantScript(t, s, l...)
		wantScript(t, one.s+one.s+one.s, one.e, one.e, one.e)
		wantScript(t, one.s+s, append([]api.Event{one.e}, l...)...)
	}
	for _, n := range []int{100, 1000, 20000} {
		one := samples()[4]
		wantScript(t, strings.Repeat(one.s, n), slices.Repeat([]api.Event{one.e}, n)...)
	}
}

// P26.1: Put where a single event can't be written, at each place of the list: nothing of the others is left.
func TestPutWhereOneIsWrong(t *testing.T) {
	good := samples()[4].e
	bad := []api.Event{{Kind: -1}, {Kind: 65536}, {Conn: -1}, {Conn: 65536}, {Client: -1}, {Client: 65536}, {Data: strings.Repeat("x", 65536)}}
	for _, e := range bad {
		for n := 1; n < 5; n++ {
			for at := range n {
				l := slices.Repeat([]api.Event{good}, n)
				l[at] = e
				wantNoPut(t, l...)
			}
		}
	}
	wantNoPut(t, bad...)
}

// P26.1: Get of a single event that is cut off at each place tells where it begins: at 0.
func TestGetOfOneCutOff(t *testing.T) {
	for _, one := range samples() {
		for size := 1; size < len(one.s); size++ {
			wantNoGet(t, one.s[:size], 0)
		}
	}
}

// P26.1: Get of many that are cut off tells where the first one begins that isn't all there, and none of those ahead of it.
func TestGetOfManyCutOff(t *testing.T) {
	all, begins := "", map[int]bool{0: true}
	for _, one := range samples() {
		all += one.s
		begins[len(all)] = true
	}
	place := 0
	for size := range all {
		if begins[size] {
			place = size
			wantTold(t, all[:size])
			continue
		}
		wantNoGet(t, all[:size], place)
	}
}

// P26.1: Get where one or more bytes stand behind the last event, too few for another one.
func TestGetOfBytesBehind(t *testing.T) {
	for _, one := range samples() {
		for size := 1; size < 8; size++ {
			for _, b := range []string{"\x00", "\x01", "x", "\xff"} {
				wantNoGet(t, one.s+strings.Repeat(b, size), len(one.s))
				wantNoGet(t, strings.Repeat(b, size), 0)
			}
		}
	}
}

// P26.1: Get where Data has fewer bytes than are told: by one, by many, or none at all.
func TestGetOfTooLittleData(t *testing.T) {
	const ahead = "\x00\x02\x00\x01\x00\x00"
	for _, size := range sizes() {
		s := ahead + bytesOf(size)
		for _, there := range []int{0, 1, size / 2, size - 2, size - 1} {
			if there >= 0 && there < size {
				wantNoGet(t, s+strings.Repeat("x", there), 0)
				wantNoGet(t, samples()[4].s+s+strings.Repeat("\x00", there), 11)
			}
		}
	}
}

// P26.1: what stands in Data is no event, though its bytes are one's; and an event's bytes are Data where one ahead of it has too many.
func TestEventsInData(t *testing.T) {
	tick := samples()[0].s
	inner := api.Event{Kind: api.EvData, Data: tick + tick}
	wantScript(t, "\x00\x02\x00\x00\x00\x00\x00\x10"+tick+tick, inner)
	outer := api.Event{Kind: api.EvData, Data: laidOut([]api.Event{inner})}
	wantScript(t, "\x00\x02\x00\x00\x00\x00\x00\x18\x00\x02\x00\x00\x00\x00\x00\x10"+tick+tick, outer)
	wantNoGet(t, "\x00\x02\x00\x00\x00\x00\x00\x11"+tick+tick, 0)
	wantNoGet(t, tick+"\x00\x02\x00\x00\x00\x00\x00\x11"+tick+tick, 8)
	// A byte of the first tick is left, and the second one's first seven make it another event: its last one is alone.
	wantNoGet(t, "\x00\x02\x00\x00\x00\x00\x00\x07"+tick+tick, 23)
}

// P26.1: Get of each text of up to 12 bytes that are 0 or 1, alone and behind an event.
func TestGetOfAllShortTexts(t *testing.T) {
	found := 0
	for size := range 13 {
		for which := range 1 << size {
			b := make([]byte, size)
			for k := range b {
				b[k] = byte(which >> k & 1)
			}
			if wantTold(t, string(b)) {
				found++
			}
			wantTold(t, samples()[4].s+string(b))
		}
	}
	if found < 100 {
		t.Fatalf("%d of the texts are events", found)
	}
}

// P26.1: Get of events' bytes with another byte at each place: others, or none, and where.
func TestGetOfChangedBytes(t *testing.T) {
	all := ""
	for _, one := range samples() {
		all += one.s
	}
	for at := range all {
		for b := range 256 {
			wantTold(t, all[:at]+string([]byte{byte(b)})+all[at+1:])
		}
	}
}

// P26.1: Get of a byte too few, or one too many, at each place.
func TestGetOfMovedBytes(t *testing.T) {
	all := ""
	for _, one := range samples() {
		all += one.s
	}
	for at := range all {
		wantTold(t, all[:at]+all[at+1:])
		for _, more := range []string{"\x00", "\x01", "\x08", "\xff", all} {
			wantTold(t, all[:at]+more+all[at:])
		}
		wantTold(t, all[at:])
		wantTold(t, all[at:]+all[:at])
	}
}

// someNumber makes a number from 0 to 65535, small, great, or anywhere.
func someNumber(chance *rand.Rand) int {
	switch chance.Intn(4) {
	case 0:
		return chance.Intn(6)
	case 1:
		return 65535 - chance.Intn(3)
	}
	return chance.Intn(65536)
}

// someEvent makes an event that may be written, seldom one of much Data.
func someEvent(chance *rand.Rand) api.Event {
	size := chance.Intn(20)
	if chance.Intn(20) == 0 {
		size = someNumber(chance)
	}
	b := make([]byte, size)
	chance.Read(b)
	return api.Event{Kind: someNumber(chance), Conn: someNumber(chance), Client: someNumber(chance), Data: string(b)}
}

// P26.2: events of any kind come back from their bytes; those cut off tell where.
func TestEventsThereAndBack(t *testing.T) {
	chance := rand.New(rand.NewSource(26))
	for range 300 {
		var l []api.Event
		for range chance.Intn(30) {
			l = append(l, someEvent(chance))
		}
		s, ok := Put(l)
		if !ok {
			t.Fatalf("Put of %d events is refused", len(l))
		}
		wantScript(t, laidOut(l), l...)
		for range 20 {
			wantTold(t, s[:chance.Intn(len(s)+1)])
		}
	}
}

// P26.2: bytes of any kind that are events' come back from these.
func TestBytesThereAndBack(t *testing.T) {
	chance, found := rand.New(rand.NewSource(260)), 0
	for range 20000 {
		b := make([]byte, chance.Intn(40))
		chance.Read(b)
		// Small sizes at places where they may tell how many bytes follow: else nearly no text would be all there.
		for at := 6; at+1 < len(b); at += 8 + chance.Intn(3) {
			b[at], b[at+1] = 0, byte(chance.Intn(3))
		}
		if wantTold(t, string(b)) {
			found++
		}
	}
	if found < 500 || found > 19000 {
		t.Fatalf("%d of the texts are events", found)
	}
}

// P26.2: lists that aren't the same have other bytes: also where they are parted elsewhere.
func TestNoTwoHaveTheSameBytes(t *testing.T) {
	tick := samples()[0].s
	lists := [][]api.Event{
		nil,
		{{}},
		{{}, {}},
		{{Kind: 4}},
		{{Kind: 4}, {Kind: 4}},
		{{Conn: 4}},
		{{Client: 4}},
		{{Kind: 4, Data: tick}},
		{{Kind: 4}, {Data: tick}},
		{{Kind: 4, Data: "\x00"}, {Kind: 4}},
		{{Kind: 4, Data: tick + tick}},
		{{Kind: 4, Data: "ab"}, {Kind: 4, Data: "c"}},
		{{Kind: 4, Data: "a"}, {Kind: 4, Data: "bc"}},
	}
	of := map[string]bool{}
	for _, l := range lists {
		s, ok := Put(l)
		if !ok || of[s] {
			t.Fatalf("Put(%+v) = %q, %v, as of another list", l, s, ok)
		}
		of[s] = true
	}
}

// Rule 5: the list that is handed in stays, its spare room too.
func TestPutLeavesItsList(t *testing.T) {
	for _, last := range []api.Event{{Kind: 3, Data: "z"}, {Kind: -1}} {
		room := []api.Event{{Kind: 1, Client: 2}, {Kind: 2, Data: "abc"}, last, {Kind: 77}, {Kind: 78}}
		before := slices.Clone(room)
		Put(room[:3])
		if !slices.Equal(room, before) {
			t.Errorf("Put changed its list: %+v", room)
		}
	}
}

// Rule 6: an answer shares nothing with the next one, and hangs on its arguments alone.
func TestGetAnswersListsOfTheirOwn(t *testing.T) {
	a, b := samples()[0], samples()[4]
	for range 3 {
		first, _, _ := Get(a.s + b.s)
		if len(first) != 2 {
			t.Fatalf("Get answers %+v", first)
		}
		clear(first[:cap(first)])
		wantGet(t, a.s+b.s, a.e, b.e)
		wantGet(t, b.s, b.e)
		wantNoGet(t, a.s+"x", 8)
		wantScript(t, a.s, a.e)
	}
}
