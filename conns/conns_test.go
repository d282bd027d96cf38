package conns

import (
	"math"
	"math/rand"
	"slices"
	"strings"
	"testing"

	"gatewarden/api"
)

// ends are numbers that a client or a place may be: small ones, those about the limits, and the ends of int.
var ends = []int{
	-1, 0, 1, 2, 3, 4, 5, 7, 15, 16, 17, 255, 256, 999, 1000, 1001, 65535, 65536,
	-2, -3, -4, -255, -1000, -65536,
	1<<31 - 1, 1 << 31, 1<<32 - 1, 1 << 32, 1<<32 + 1, 1 << 40, -1 << 31, -1 << 32,
	math.MaxInt, math.MaxInt - 1, math.MinInt, math.MinInt + 1,
}

// lives are what a Life may be, where nothing more is asked.
var lives = []int{0, 1, 2, 7, 255, 65536, 1 << 31, 1 << 32, 1<<40 - 1}

// sample is a frame and its bytes, worked out by hand.
type sample struct {
	f api.Frame
	s string
}

func samples() []sample {
	return []sample{
		{api.Frame{Id: 1, Unit: 17, Pdu: "\x03\x00\x64\x00\x02"}, "\x00\x01\x00\x00\x00\x06\x11\x03\x00\x64\x00\x02"},
		{api.Frame{Id: 0, Unit: 0, Pdu: "\x00"}, "\x00\x00\x00\x00\x00\x02\x00\x00"},
		{api.Frame{Id: 65535, Unit: 255, Pdu: "\xff"}, "\xff\xff\x00\x00\x00\x02\xff\xff"},
		{api.Frame{Id: 65280, Unit: 254, Pdu: strings.Repeat("\x00", 253)}, "\xff\x00\x00\x00\x00\xfe\xfe" + strings.Repeat("\x00", 253)},
	}
}

// wrong begins as no frame does: its protocol isn't 0.
const wrong = "\x00\x01\x00\x01\x00\x06"

func open(client, life int) api.Conn {
	return api.Conn{Open: true, Client: client, Life: life}
}

func openWith(client, life int, buf string) api.Conn {
	return api.Conn{Open: true, Client: client, Life: life, In: api.Stream{Buf: buf}}
}

func openBad(client, life int) api.Conn {
	return api.Conn{Open: true, Client: client, Life: life, In: api.Stream{Bad: true}}
}

func shut(life int) api.Conn {
	return api.Conn{Life: life}
}

// some answers one connection of each kind: the places 1, 2, 4 and 6 are open.
func some() []api.Conn {
	return []api.Conn{shut(0), open(7, 1), openWith(8, 3, "\x00\x02"), shut(5), openBad(7, 2), shut(1<<40 - 1), openWith(0, 1, samples()[3].s[:259])}
}

// with answers l with c at the place k.
func with(l []api.Conn, k int, c api.Conn) []api.Conn {
	all := slices.Clone(l)
	all[k] = c
	return all
}

// The first wrong answer ends a test: the loops over many lists would tell thousands of them.
func wantList(t *testing.T, what string, got, want []api.Conn) {
	t.Helper()
	if !slices.Equal(got, want) {
		t.Fatalf("%s: %#v; want %#v", what, got, want)
	}
}

func wantRight(t *testing.T, l []api.Conn, want bool) {
	t.Helper()
	if got := Right(l); got != want {
		t.Fatalf("Right(%#v) = %v; want %v", l, got, want)
	}
}

// wantAccept asks for the place at which the client finds itself, and for all others as they were.
func wantAccept(t *testing.T, l []api.Conn, client, place int) {
	t.Helper()
	got, k, ok := Accept(l, client)
	if k != place || !ok {
		t.Fatalf("Accept(%#v, %d) tells %d, %v; want %d, true", l, client, k, ok, place)
	}
	wantList(t, "Accept", got, with(l, place, open(client, l[place].Life+1)))
}

func wantNoPlace(t *testing.T, l []api.Conn, client int) {
	t.Helper()
	got, k, ok := Accept(l, client)
	if k != 0 || ok {
		t.Fatalf("Accept(%#v, %d) tells %d, %v; want 0, false", l, client, k, ok)
	}
	wantList(t, "Accept where no place is free", got, l)
}

func wantPush(t *testing.T, l []api.Conn, k int, b string, want []api.Conn, of ...api.Frame) {
	t.Helper()
	got, frames := Push(l, k, b)
	wantList(t, "Push", got, want)
	if !slices.Equal(frames, of) {
		t.Fatalf("Push(%#v, %d, %q) tells the frames %#v; want %#v", l, k, b, frames, of)
	}
}

func wantOpen(t *testing.T, l []api.Conn, k int, want bool) {
	t.Helper()
	if got := Open(l, k); got != want {
		t.Fatalf("Open(%#v, %d) = %v; want %v", l, k, got, want)
	}
}

// P22.1: n places, none open, all else 0.
func TestNew(t *testing.T) {
	for n := range 1001 {
		l := New(n)
		if len(l) != n {
			t.Fatalf("New(%d) has %d places", n, len(l))
		}
		for k, c := range l {
			if c != (api.Conn{}) {
				t.Fatalf("New(%d) has %#v at %d", n, c, k)
			}
		}
	}
}

// P22.1: none, if n is below 0; at most 1000.
func TestNewOfAnyNumber(t *testing.T) {
	for _, n := range append(ends, 998, 1002, 2000, 1<<20, 1<<32+5, -5, 5-1<<32) {
		want := n
		if n < 0 {
			want = 0
		}
		if n > 1000 {
			want = 1000
		}
		if l := New(n); len(l) != want || slices.ContainsFunc(l, func(c api.Conn) bool { return c != api.Conn{} }) {
			t.Fatalf("New(%d) has %d places; want %d: %#v", n, len(l), want, l)
		}
	}
}

// P22.1: places that are new are right, and so are no places.
func TestRightOfNew(t *testing.T) {
	wantRight(t, nil, true)
	wantRight(t, []api.Conn{}, true)
	for _, n := range []int{-1, 0, 1, 2, 16, 1000, 1001} {
		wantRight(t, New(n), true)
	}
}

// P22.1: one of each kind is right, alone and together.
func TestRight(t *testing.T) {
	wantRight(t, some(), true)
	for k, c := range some() {
		wantRight(t, []api.Conn{c}, true)
		wantRight(t, some()[k:], true)
	}
}

// P22.1: a Life is 0 or more, whether it is open or not, and however great.
func TestRightOfLives(t *testing.T) {
	for _, life := range append(ends, lives...) {
		wantRight(t, []api.Conn{shut(life)}, life >= 0)
		wantRight(t, []api.Conn{open(7, life)}, life >= 0)
		wantRight(t, []api.Conn{openWith(7, life, "\x00")}, life >= 0)
		wantRight(t, []api.Conn{openBad(7, life)}, life >= 0)
	}
}

// P22.1: one that is open has any client; one that isn't has the client 0.
func TestRightOfClients(t *testing.T) {
	for _, client := range ends {
		for _, life := range lives {
			wantRight(t, []api.Conn{open(client, life)}, true)
			wantRight(t, []api.Conn{{Client: client, Life: life}}, client == 0)
		}
	}
}

// P22.1: the stream of one that is open is right by layer 9: no whole frame, nothing that begins as none does, and nothing in what is Bad.
func TestRightOfStreams(t *testing.T) {
	for _, one := range samples() {
		for at := range len(one.s) + 1 {
			wantRight(t, []api.Conn{openWith(7, 1, one.s[:at])}, at < len(one.s))
			wantRight(t, []api.Conn{openWith(7, 1, one.s+one.s[:at])}, false)
			wantRight(t, []api.Conn{{Open: true, Client: 7, Life: 1, In: api.Stream{Buf: one.s[:at], Bad: true}}}, at == 0)
		}
	}
	for at := range len(wrong) + 1 {
		wantRight(t, []api.Conn{openWith(7, 1, wrong[:at])}, at < 6)
	}
}

// P22.1: the stream of one that isn't open is empty: a beginning that would be right of an open one isn't, nor is what is Bad.
func TestRightOfStreamsThatAreNotOpen(t *testing.T) {
	for _, life := range lives {
		for _, buf := range []string{"\x00", "abc", wrong[:5], wrong, samples()[0].s[:7], samples()[0].s, samples()[3].s[:259]} {
			wantRight(t, []api.Conn{{Life: life, In: api.Stream{Buf: buf}}}, false)
			wantRight(t, []api.Conn{{Life: life, In: api.Stream{Buf: buf, Bad: true}}}, false)
		}
		wantRight(t, []api.Conn{{Life: life, In: api.Stream{Bad: true}}}, false)
		wantRight(t, []api.Conn{{Client: 7, Life: life, In: api.Stream{Buf: "\x00"}}}, false)
	}
}

// wrongs are connections each of which isn't right.
func wrongs() []api.Conn {
	return []api.Conn{
		{Client: 1}, {Client: -1}, {Life: -1}, {In: api.Stream{Buf: "\x00"}}, {In: api.Stream{Bad: true}},
		{Open: true, Life: -1}, openWith(7, 1, wrong), openWith(7, 1, samples()[0].s), {Open: true, In: api.Stream{Buf: "\x00", Bad: true}},
	}
}

// P22.1: each one must be: a single one that isn't is enough, wherever it stands.
func TestRightOfEach(t *testing.T) {
	for _, c := range wrongs() {
		wantRight(t, []api.Conn{c}, false)
		for k := range some() {
			wantRight(t, with(some(), k, c), false)
		}
		wantRight(t, append(New(1000), c), false)
		wantRight(t, append([]api.Conn{c}, New(1000)...), false)
	}
}

// P22.1: one place behind the other, till there is none.
func TestAccept(t *testing.T) {
	for _, n := range []int{0, 1, 2, 3, 16, 100} {
		l := New(n)
		for place := range n {
			wantAccept(t, l, 100+place, place)
			l, _, _ = Accept(l, 100+place)
			wantRight(t, l, true)
		}
		wantNoPlace(t, l, 7)
		for k, c := range l {
			if c != open(100+k, 1) {
				t.Fatalf("at %d there is %#v", k, c)
			}
		}
	}
	wantNoPlace(t, nil, 7)
	wantNoPlace(t, []api.Conn{}, 7)
}

// P22.1: it is the first place that isn't open, however often it was taken, and how rarely others were.
func TestAcceptTakesTheFirstPlace(t *testing.T) {
	l := some()
	for _, place := range []int{0, 3, 5} {
		wantAccept(t, l, 9, place)
		l, _, _ = Accept(l, 9)
	}
	wantNoPlace(t, l, 9)
	wantAccept(t, []api.Conn{shut(9), shut(0)}, 7, 0)
	wantAccept(t, []api.Conn{open(7, 0), shut(9), shut(0)}, 7, 1)
	for which := range 1 << 6 {
		l, first := New(6), -1
		for k := range l {
			if which>>k&1 == 1 {
				l[k] = openWith(k, k+1, "\x00")
			} else if first < 0 {
				first = k
			}
		}
		if first < 0 {
			wantNoPlace(t, l, 3)
		} else {
			wantAccept(t, l, 3, first)
		}
	}
}

// P22.1, rule 7: a client may be any number, one too that has a place already.
func TestAcceptOfAnyClient(t *testing.T) {
	for _, client := range ends {
		wantAccept(t, New(1), client, 0)
		wantAccept(t, some(), client, 0)
		wantAccept(t, []api.Conn{open(client, 1), shut(0)}, client, 1)
		wantNoPlace(t, []api.Conn{open(client, 1), open(4, 1)}, client)
	}
}

// P22.1: one more Life, up to the greatest that there may be.
func TestAcceptOfLives(t *testing.T) {
	for _, life := range lives {
		wantAccept(t, []api.Conn{shut(life)}, 7, 0)
		wantAccept(t, []api.Conn{open(1, 1), shut(life), shut(3)}, 7, 1)
	}
	l, _, _ := Accept([]api.Conn{shut(1<<40 - 1)}, 7)
	wantList(t, "the last Life", l, []api.Conn{open(7, 1<<40)})
}

// P22.1: all are open, those too whose streams are Bad.
func TestAcceptWhereAllAreOpen(t *testing.T) {
	l := []api.Conn{open(0, 0), openBad(0, 1), openWith(7, 3, "abc")}
	for _, client := range ends {
		wantNoPlace(t, l, client)
		wantNoPlace(t, l[:1], client)
		wantNoPlace(t, l[1:2], client)
	}
}

// P22.1: the k-th one isn't open any more, and all of it but its Life is 0; the others stay.
func TestClose(t *testing.T) {
	l := some()
	for k, c := range l {
		got := Close(l, k)
		wantList(t, "Close", got, with(l, k, shut(c.Life)))
		wantList(t, "Close of one that is closed", Close(got, k), got)
		wantRight(t, got, true)
		wantOpen(t, got, k, false)
	}
	for _, life := range lives {
		for _, c := range []api.Conn{shut(life), open(7, life), open(0, life), open(-1, life), openWith(7, life, "abc"), openWith(0, life, "abc"), openBad(7, life), openBad(0, life)} {
			wantList(t, "Close of one", Close([]api.Conn{c}, 0), []api.Conn{shut(life)})
		}
	}
}

// P22.1: where there is no k-th one, all stay.
func TestCloseNone(t *testing.T) {
	l := []api.Conn{open(7, 1), shut(2), openWith(8, 3, "abc")}
	for _, k := range ends {
		if k < 0 || k > 2 {
			wantList(t, "Close of none", Close(l, k), l)
		}
		wantList(t, "Close of nothing", Close(nil, k), nil)
		wantList(t, "Close of nothing", Close([]api.Conn{}, k), nil)
		wantList(t, "Close in spare room", Close(l[:0], k), nil)
	}
	wantList(t, "Close in spare room", Close(l[:2], 2), l[:2])
	wantList(t, "Close of a client's number", Close(l, 7), l)
}

// P22.1: bytes come to the k-th one's stream, and to no other one; its frames come, in order.
func TestPush(t *testing.T) {
	a, b := samples()[0], samples()[3]
	l := []api.Conn{open(7, 1), openWith(8, 2, a.s[:5]), openWith(7, 3, b.s[:259])}
	wantPush(t, l, 0, "", l)
	wantPush(t, l, 1, "", l)
	wantPush(t, l, 0, "abc", with(l, 0, openWith(7, 1, "abc")))
	wantPush(t, l, 0, a.s, l, a.f)
	wantPush(t, l, 0, a.s+b.s+a.s, l, a.f, b.f, a.f)
	wantPush(t, l, 0, a.s+b.s[:9], with(l, 0, openWith(7, 1, b.s[:9])), a.f)
	wantPush(t, l, 1, a.s[5:], with(l, 1, open(8, 2)), a.f)
	wantPush(t, l, 1, a.s[5:11], with(l, 1, openWith(8, 2, a.s[:11])))
	wantPush(t, l, 1, a.s[5:]+a.s[:5], l, a.f)
	wantPush(t, l, 2, b.s[259:], with(l, 2, open(7, 3)), b.f)
	wantPush(t, l, 2, b.s[259:]+a.s+"\x00", with(l, 2, openWith(7, 3, "\x00")), b.f, a.f)
}

// P22.1: each frame in two pieces, cut at each place: both may be at each place.
func TestPushOfPieces(t *testing.T) {
	for _, one := range samples() {
		for at := range one.s {
			for k := range 3 {
				l := []api.Conn{open(1, 4), open(2, 5), open(1, 4)}
				begun := with(l, k, api.Conn{Open: true, Client: l[k].Client, Life: l[k].Life, In: api.Stream{Buf: one.s[:at]}})
				wantPush(t, l, k, one.s[:at], begun)
				wantPush(t, begun, k, one.s[at:], l, one.f)
			}
		}
	}
}

// P22.1: what is no frame makes the stream Bad; the frames ahead of it come, and none behind it. It stays open.
func TestPushOfWhatIsNone(t *testing.T) {
	a := samples()[0]
	l := []api.Conn{open(7, 1), openWith(8, 2, wrong[:5]), openBad(9, 3)}
	wantPush(t, l, 0, wrong, with(l, 0, openBad(7, 1)))
	wantPush(t, l, 0, a.s+wrong+a.s, with(l, 0, openBad(7, 1)), a.f)
	wantPush(t, l, 0, wrong[:5], with(l, 0, openWith(7, 1, wrong[:5])))
	wantPush(t, l, 1, wrong[5:]+a.s, with(l, 1, openBad(8, 2)))
	for _, b := range []string{"", "\x00", a.s, wrong, strings.Repeat(a.s, 9)} {
		wantPush(t, l, 2, b, l)
	}
	bad, _ := Push(l, 0, wrong)
	wantOpen(t, bad, 0, true)
	wantRight(t, bad, true)
}

// P22.1: to one that isn't open nothing comes, whatever the bytes, and there are no frames.
func TestPushToOneThatIsNotOpen(t *testing.T) {
	a := samples()[0]
	l := some()
	for _, k := range []int{0, 3, 5} {
		for _, b := range []string{"", "\x00", "abc", a.s, a.s + a.s, wrong, a.s + wrong} {
			wantPush(t, l, k, b, l)
			wantPush(t, []api.Conn{l[k]}, 0, b, []api.Conn{l[k]})
		}
	}
}

// P22.1: where there is no k-th one nothing comes.
func TestPushToNone(t *testing.T) {
	a := samples()[0]
	l := []api.Conn{open(7, 1), openWith(8, 2, "abc"), openWith(9, 3, "abc")}
	for _, k := range ends {
		for _, b := range []string{"", "abc", a.s, wrong} {
			if k < 0 || k > 2 {
				wantPush(t, l, k, b, l)
			}
			wantPush(t, nil, k, b, nil)
			wantPush(t, []api.Conn{}, k, b, nil)
			wantPush(t, l[:0], k, b, nil)
		}
	}
	wantPush(t, l[:2], 2, a.s, l[:2])
	wantPush(t, l, 7, a.s, l)
}

// P22.1: its client and its Life may be any, and stay.
func TestPushKeepsClientAndLife(t *testing.T) {
	a := samples()[0]
	for _, client := range ends {
		for _, life := range lives {
			wantPush(t, []api.Conn{open(client, life)}, 0, a.s+"abc", []api.Conn{openWith(client, life, "abc")}, a.f)
			wantPush(t, []api.Conn{open(client, life)}, 0, wrong, []api.Conn{openBad(client, life)})
		}
	}
}

// P22.1: is there a k-th one, and is it open? Nothing else of it counts.
func TestOpen(t *testing.T) {
	for k := range some() {
		wantOpen(t, some(), k, k == 1 || k == 2 || k == 4 || k == 6)
	}
	for _, k := range ends {
		wantOpen(t, []api.Conn{open(0, 0)}, k, k == 0)
		wantOpen(t, []api.Conn{shut(0)}, k, false)
		wantOpen(t, []api.Conn{shut(1), openBad(7, 2), shut(1)}, k, k == 1)
		wantOpen(t, slices.Repeat([]api.Conn{open(7, 1)}, 1000), k, k >= 0 && k < 1000)
		wantOpen(t, New(1000), k, false)
		wantOpen(t, nil, k, false)
		wantOpen(t, []api.Conn{}, k, false)
		wantOpen(t, slices.Repeat([]api.Conn{open(7, 1)}, 5)[:2], k, k == 0 || k == 1)
	}
}

// P22.1: the whole of a place: what was of the connection before it is not of the next one.
func TestAPlaceTakenAgain(t *testing.T) {
	a := samples()[0]
	l := New(2)
	for life := 1; life < 50; life++ {
		wantAccept(t, l, 40+life, 0)
		l, _, _ = Accept(l, 40+life)
		wantPush(t, l, 0, a.s+a.s[:7], []api.Conn{openWith(40+life, life, a.s[:7]), {}}, a.f)
		l, _ = Push(l, 0, a.s[:7])
		if life%3 == 0 {
			l, _ = Push(l, 0, a.s[7:]+wrong)
			wantList(t, "a stream that is broken", l, []api.Conn{openBad(40+life, life), {}})
		}
		l = Close(l, 0)
		wantList(t, "behind Close", l, []api.Conn{shut(life), {}})
		wantPush(t, l, 0, a.s[7:], l)
	}
}

// P22.2: two places: the third client is refused, and finds one when another one has gone.
func TestThirdClientIsRefused(t *testing.T) {
	l, _, _ := Accept(New(2), 7)
	l, _, _ = Accept(l, 8)
	wantNoPlace(t, l, 9)
	wantAccept(t, Close(l, 0), 9, 0)
	wantAccept(t, Close(l, 1), 9, 1)
	wantAccept(t, Close(Close(l, 1), 0), 9, 0)
	wantNoPlace(t, Close(l, 2), 9)
	wantNoPlace(t, Close(l, -1), 9)
}

// P22.2: two streams that come piece by piece, one among the other, make each the frames that it makes alone.
func TestStreamsAreTheirOwn(t *testing.T) {
	chance := rand.New(rand.NewSource(221))
	for range 300 {
		l, texts, made, want := New(3), [3]string{}, [3][]api.Frame{}, [3][]api.Frame{}
		for k := range texts {
			l, _, _ = Accept(l, 5)
			for range chance.Intn(5) {
				one := samples()[chance.Intn(4)]
				texts[k], want[k] = texts[k]+one.s, append(want[k], one.f)
			}
		}
		for texts != [3]string{} {
			k := chance.Intn(3)
			n := min(1+chance.Intn(30), len(texts[k]))
			next, frames := Push(l, k, texts[k][:n])
			l, texts[k], made[k] = next, texts[k][n:], append(made[k], frames...)
			wantRight(t, l, true)
		}
		wantList(t, "behind whole frames", l, []api.Conn{open(5, 1), open(5, 1), open(5, 1)})
		for k := range made {
			if !slices.Equal(made[k], want[k]) {
				t.Fatalf("at %d: %#v; want %#v", k, made[k], want[k])
			}
		}
	}
}

// naive is what connections are, held in another way: of each place that is open its client and all bytes that came, and how often each was taken.
type naive struct {
	n      int
	client map[int]int
	bytes  map[int]string
	taken  map[int]int
}

// left works out, from all of a connection's bytes, what stream is left of them, and how many frames they have.
func left(s string) (api.Stream, int) {
	whole := 0
	for len(s) >= 6 {
		if s[2] != 0 || s[3] != 0 || s[4] != 0 || s[5] < 2 || s[5] > 254 {
			return api.Stream{Bad: true}, whole
		}
		if len(s) < 6+int(s[5]) {
			break
		}
		s, whole = s[6+int(s[5]):], whole+1
	}
	return api.Stream{Buf: s}, whole
}

func (n *naive) list() []api.Conn {
	var l []api.Conn
	for k := range n.n {
		c := api.Conn{Life: n.taken[k]}
		if client, is := n.client[k]; is {
			in, _ := left(n.bytes[k])
			c = api.Conn{Open: true, Client: client, Life: n.taken[k], In: in}
		}
		l = append(l, c)
	}
	return l
}

// accept does to n what Accept must do, and asks for its place.
func (n *naive) accept(t *testing.T, l []api.Conn, client int) []api.Conn {
	t.Helper()
	place := 0
	for n.client[place] != 0 {
		place++
	}
	next, k, ok := Accept(l, client)
	if len(n.client) == n.n {
		place = 0
	} else {
		n.client[place], n.bytes[place], n.taken[place] = client, "", n.taken[place]+1
	}
	if k != place || ok == slices.Equal(l, next) {
		t.Fatalf("Accept(%#v, %d) = %#v, %d, %v; want %d", l, client, next, k, ok, place)
	}
	return next
}

// push does to n what Push must do, and asks for as many frames as the bytes have in all.
func (n *naive) push(t *testing.T, l []api.Conn, k int, b string) []api.Conn {
	t.Helper()
	next, frames := Push(l, k, b)
	want := 0
	if _, is := n.client[k]; is {
		_, before := left(n.bytes[k])
		n.bytes[k] += b
		_, behind := left(n.bytes[k])
		want = behind - before
	}
	if len(frames) != want {
		t.Fatalf("Push(%#v, %d, %q) tells %d frames; want %d", l, k, b, len(frames), want)
	}
	return next
}

// piece makes some bytes: of frames, cut anyhow, and rarely such that are none.
func piece(chance *rand.Rand) string {
	one := samples()[chance.Intn(4)].s
	switch chance.Intn(30) {
	case 0:
		return wrong
	case 1, 2, 3:
		return one[:chance.Intn(len(one))]
	}
	return strings.Repeat(one, chance.Intn(3))
}

// P22.2: through many steps what is done with one leaves the others, and no place is taken twice at a time: each place and Life is one client's.
func TestManySteps(t *testing.T) {
	chance := rand.New(rand.NewSource(222))
	for _, places := range []int{0, 1, 2, 3, 5, 16} {
		l := New(places)
		n := &naive{n: places, client: map[int]int{}, bytes: map[int]string{}, taken: map[int]int{}}
		for step := range 4000 {
			k := chance.Intn(places+3) - 1
			switch chance.Intn(8) {
			case 0, 1:
				l = n.accept(t, l, 1+step)
			case 2:
				l = Close(l, k)
				delete(n.client, k)
				delete(n.bytes, k)
			default:
				l = n.push(t, l, k, piece(chance))
			}
			wantList(t, "behind a step", l, n.list())
			wantRight(t, l, true)
			_, is := n.client[k]
			wantOpen(t, l, k, is)
		}
	}
}

// calls answers what each call tells of l that is a list of connections.
func calls(l []api.Conn) [][]api.Conn {
	taken, _, _ := Accept(l, 9)
	full, _, _ := Accept(l[1:3], 9)
	pushed, _ := Push(l, 1, samples()[0].s+"abc")
	broken, _ := Push(l, 2, wrong)
	notOpen, _ := Push(l, 0, "abc")
	none, _ := Push(l, len(l), "abc")
	nothing, _ := Push(l, 1, "")
	return [][]api.Conn{taken, full, pushed, broken, notOpen, none, nothing, Close(l, 0), Close(l, 2), Close(l, -1), Close(l, len(l)), New(3), New(3)}
}

// Rule 5: what is handed in stays, its spare room too.
func TestWhatIsHandedInStays(t *testing.T) {
	whole := append(some(), some()...)
	before := slices.Clone(whole)
	for size := 3; size <= len(whole); size++ {
		calls(whole[:size])
		Right(whole[:size])
		Open(whole[:size], 1)
		Open(whole[:size], size)
		wantList(t, "behind the calls", whole, before)
	}
}

// An answer is new memory: whatever is done to it, what was handed in and all other answers stay.
func TestAnswersShareNothing(t *testing.T) {
	whole := append(some(), some()...)
	before := slices.Clone(whole)
	answers, want := calls(whole[:7]), calls(some())
	for k, a := range answers {
		wantList(t, "an answer", a, want[k])
		a = a[:cap(a)]
		for i := range a {
			a[i] = api.Conn{Open: true, Client: -12345, Life: -12345, In: api.Stream{Buf: "spoilt", Bad: true}}
		}
		wantList(t, "what was handed in, behind a change of an answer", whole, before)
		for i := k + 1; i < len(answers); i++ {
			wantList(t, "an answer, behind a change of another one", answers[i], want[i])
		}
	}
	l, first := Push(some(), 1, samples()[0].s+samples()[1].s)
	_, second := Push(l, 1, samples()[2].s)
	second[0] = api.Frame{}
	if !slices.Equal(first, []api.Frame{samples()[0].f, samples()[1].f}) {
		t.Fatalf("frames, behind a change of others: %#v", first)
	}
}

// Rule 5: what is handed in is not kept: if it is changed behind the call, the answers stay.
func TestWhatIsHandedInIsNotKept(t *testing.T) {
	l := some()
	answers, want := calls(l), calls(some())
	clear(l)
	for k, a := range answers {
		wantList(t, "an answer, behind a change of what was handed in", a, want[k])
	}
}

// Rule 6: a call hangs on its arguments alone: other calls between don't count.
func TestNothingIsKept(t *testing.T) {
	l, a := some(), samples()[0]
	for range 3 {
		wantAccept(t, l, 9, 0)
		wantAccept(t, New(2), 9, 0)
		wantPush(t, l, 1, a.s[:7], with(l, 1, openWith(7, 1, a.s[:7])))
		wantPush(t, l, 1, a.s[7:8], with(l, 1, openWith(7, 1, a.s[7:8])))
		wantPush(t, l, 1, wrong, with(l, 1, openBad(7, 1)))
		wantPush(t, l, 1, a.s, l, a.f)
		wantList(t, "Close", Close(l, 1), with(l, 1, shut(1)))
		wantOpen(t, l, 1, true)
		wantRight(t, l, true)
		wantRight(t, wrongs(), false)
		wantNoPlace(t, l[1:3], 9)
	}
}

// Rule 1: of connections that aren't right nothing is promised but that each call ends, without a panic.
func TestConnectionsThatAreNotRight(t *testing.T) {
	for _, c := range append(wrongs(), api.Conn{Life: math.MaxInt}, api.Conn{Open: true, Life: math.MinInt}, openWith(7, 1, strings.Repeat("\x00", 70000))) {
		for _, l := range [][]api.Conn{{c}, {c, c, c}, append(some(), c), append([]api.Conn{c}, some()...)} {
			for _, k := range ends {
				Accept(l, k)
				Close(l, k)
				Open(l, k)
				Push(l, k, samples()[0].s)
				Push(l, k, wrong)
			}
			Right(l)
		}
	}
}
