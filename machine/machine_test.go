package machine

import (
	"math"
	"reflect"
	"slices"
	"strings"
	"testing"

	"gatewarden/api"
	"gatewarden/check"
	"gatewarden/compile"
)

// ends are numbers that a place, a client, a kind or a conf's field may be: small ones, those about the limits, and the ends of int.
var ends = []int{
	-1, 0, 1, 2, 3, 4, 5, 6, 7, 15, 16, 17, 63, 64, 65, 254, 255, 256, 257, 65535, 65536,
	-2, -3, -4, -5, -16, -64, -255, -256, -65536,
	1<<20 - 1, 1 << 20, 1<<20 + 1, 1<<31 - 1, 1 << 31, 1<<32 - 1, 1 << 32, 1<<32 + 1, 1 << 40, -1 << 31, -1 << 32,
	math.MaxInt, math.MaxInt - 1, math.MinInt, math.MinInt + 1,
}

// The PDUs of requests, and of what the device says of them, worked out by hand.
const (
	readOne   = "\x03\x00\x64\x00\x01"
	itsOne    = "\x03\x02\x00\x07"
	itsFault  = "\x83\x02"
	writeOne  = "\x06\x00\x05\x01\x02"
	writeMany = "\x10\x00\x0a\x00\x01\x02\x00\x07"
	itsMany   = "\x10\x00\x0a\x00\x01"
)

// The kinds of outputs and records, spelt out here so that they share nothing with what they are held against.
const (
	outDevice = 1
	outClient = 2
	outClose  = 3
	outAll    = 4
	outRecord = 5

	recFrame  = 1
	recBroken = 2
	recDevice = 3
	recDead   = 4
)

// wrong begins as no frame does: its protocol isn't 0.
const wrong = "\x00\x01\x00\x01\x00\x06"

// small is a conf of two connections and two requests that wait, each for three ticks.
var small = api.Conf{Conns: 2, Pend: 2, Wait: 3}

// frame answers a frame's bytes, laid by hand.
func frame(id, unit int, pdu string) string {
	return string([]byte{byte(id >> 8), byte(id), 0, 0, 0, byte(1 + len(pdu)), byte(unit)}) + pdu
}

func accept(client int) api.Event {
	return api.Event{Kind: 1, Client: client}
}

func data(conn int, s string) api.Event {
	return api.Event{Kind: 2, Conn: conn, Data: s}
}

func hangUp(conn int) api.Event {
	return api.Event{Kind: 3, Conn: conn}
}

func tick() api.Event {
	return api.Event{Kind: 4}
}

func ticks(n int) []api.Event {
	return slices.Repeat([]api.Event{tick()}, n)
}

func device(s string) api.Event {
	return api.Event{Kind: 5, Data: s}
}

func events(l ...[]api.Event) []api.Event {
	return slices.Concat(l...)
}

func toDevice(s string) api.Out {
	return api.Out{Kind: outDevice, Conn: -1, Data: s}
}

func toClient(conn int, s string) api.Out {
	return api.Out{Kind: outClient, Conn: conn, Data: s}
}

func closed(conn int) api.Out {
	return api.Out{Kind: outClose, Conn: conn}
}

func closedAll() api.Out {
	return api.Out{Kind: outAll, Conn: -1}
}

// logged answers the output of a record, its bytes laid by hand.
func logged(r api.Record) api.Out {
	var b []byte
	for _, n := range []int{r.Seq, r.Tick} {
		for shift := 40; shift >= 0; shift -= 8 {
			b = append(b, byte(n>>shift))
		}
	}
	b = append(b, byte(r.Kind), byte(r.Conn), byte(r.Unit), byte(r.Func), byte(r.Verdict), byte(r.Rule), byte(r.Id>>8), byte(r.Id))
	return api.Out{Kind: outRecord, Conn: -1, Data: string(b)}
}

// tidy answers s with no list that is empty but not nil: both are the same.
func tidy(s api.State) api.State {
	if len(s.Rules) == 0 {
		s.Rules = nil
	}
	if len(s.Pend) == 0 {
		s.Pend = nil
	}
	if len(s.Buckets) == 0 {
		s.Buckets = nil
	}
	s.Pend = slices.Clone(s.Pend)
	for k := range s.Pend {
		if len(s.Pend[k].Ask.Values) == 0 {
			s.Pend[k].Ask.Values = nil
		}
	}
	return s
}

// The first wrong answer ends a test: the loops over many scripts would tell thousands of them.
func wantState(t *testing.T, what string, got, want api.State) {
	t.Helper()
	if !reflect.DeepEqual(tidy(got), tidy(want)) {
		t.Fatalf("%s: the machine %+v; want %+v", what, got, want)
	}
}

func wantOuts(t *testing.T, what string, got []api.Out, want ...api.Out) {
	t.Helper()
	for k := range min(len(got), len(want)) {
		if got[k] != want[k] {
			t.Fatalf("%s: the output %d is %+v; want %+v", what, k, got[k], want[k])
		}
	}
	if len(got) != len(want) {
		t.Fatalf("%s: the outputs %+v; want %+v", what, got, want)
	}
}

func start(t *testing.T, c api.Conf, text string) api.State {
	t.Helper()
	s, line, e := New(c, text)
	if line != 0 || e != api.OK {
		t.Fatalf("New(%+v, %q) tells %d, %d; want a machine", c, text, line, e)
	}
	return s
}

// step answers the machine behind all events, one by one by Do, and all outputs.
func step(s api.State, l []api.Event) (api.State, []api.Out) {
	var all []api.Out
	for _, e := range l {
		next, outs := Do(s, e)
		s, all = next, append(all, outs...)
	}
	return s, all
}

// play answers the machine behind all events, and all outputs: told by Run, and by Do, which must be the same.
func play(t *testing.T, c api.Conf, text string, l []api.Event) (api.State, []api.Out) {
	t.Helper()
	s, outs, e := Run(c, text, l)
	if e != api.OK {
		t.Fatalf("Run(%+v, %q, %+v) tells %d", c, text, l, e)
	}
	other, all := step(start(t, c, text), l)
	wantState(t, "Do, unlike Run", other, s)
	wantOuts(t, "Do, unlike Run", all, outs...)
	return s, outs
}

// wantPlay asks for the outputs of the last event alone: those of the others are told by tests of their own.
func wantPlay(t *testing.T, c api.Conf, text string, l []api.Event, want ...api.Out) api.State {
	t.Helper()
	_, ahead := play(t, c, text, l[:len(l)-1])
	s, outs := play(t, c, text, l)
	wantOuts(t, "outputs", outs[len(ahead):], want...)
	return s
}

// wantNothing asks that an event of this machine changes nothing, and puts nothing out.
func wantNothing(t *testing.T, s api.State, e api.Event) {
	t.Helper()
	next, outs := Do(s, e)
	wantOuts(t, "an event that does nothing", outs)
	wantState(t, "an event that does nothing", next, s)
}

func wantInts(t *testing.T, what string, got []int, want ...int) {
	t.Helper()
	if !slices.Equal(got, want) {
		t.Fatalf("%s: %v; want %v", what, got, want)
	}
}

func outers(s api.State) []int {
	var l []int
	for _, p := range s.Pend {
		l = append(l, p.Outer)
	}
	return l
}

// P25.1: a conf may be by each of its fields.
func TestRight(t *testing.T) {
	good := api.Conf{Conns: 3, Pend: 5, Wait: 7}
	for _, n := range append(ends, 8, 14, 18, 62, 66, 100, 1000) {
		for _, one := range []struct {
			c    api.Conf
			most int
		}{
			{api.Conf{Conns: n, Pend: good.Pend, Wait: good.Wait}, 16},
			{api.Conf{Conns: good.Conns, Pend: n, Wait: good.Wait}, 64},
			{api.Conf{Conns: good.Conns, Pend: good.Pend, Wait: n}, 1048576},
		} {
			if got, want := Right(one.c), n >= 1 && n <= one.most; got != want {
				t.Fatalf("Right(%+v) = %v; want %v", one.c, got, want)
			}
		}
	}
	for _, c := range []api.Conf{{Conns: 1, Pend: 1, Wait: 1}, {Conns: 16, Pend: 64, Wait: 1048576}} {
		if !Right(c) {
			t.Fatalf("Right(%+v) = false", c)
		}
	}
	if Right(api.Conf{}) {
		t.Fatal("the zero conf may be")
	}
}

// P25.1: a machine of this conf and this policy, its connections closed, its levels full, all else 0, or empty.
func TestNew(t *testing.T) {
	for _, text := range []string{
		"", "allow;", "deny;", "deny when func 6;\nallow when client 1-3 and not real -5 to 5 rate 1 per 2 burst 3;\n# the rest\nallow rate 7 per 1 burst 1;",
	} {
		rules, _, e := check.Policy(text)
		if e != api.OK {
			t.Fatalf("the policy %q is refused: the test is wrong", text)
		}
		levels := make([]int, len(rules))
		for k, r := range rules {
			levels[k] = r.Rate.Burst * r.Rate.Per
		}
		for _, c := range []api.Conf{small, {Conns: 1, Pend: 1, Wait: 1}, {Conns: 16, Pend: 64, Wait: 1 << 20}} {
			want := api.State{Conf: c, Rules: rules, Nodes: compile.Rules(rules), Conns: make([]api.Conn, c.Conns), Buckets: levels}
			wantState(t, "New", start(t, c, text), want)
			s, outs, e := Run(c, text, nil)
			wantState(t, "Run of nothing", s, want)
			wantOuts(t, "Run of nothing", outs)
			if e != api.OK {
				t.Fatalf("Run of nothing tells %d", e)
			}
		}
	}
	s := start(t, small, "deny when func 6; allow rate 1 per 2 burst 3;")
	wantInts(t, "levels", s.Buckets, 0, 6)
}

func wantRefused(t *testing.T, c api.Conf, text string, line int, e api.Errno) {
	t.Helper()
	s, l, got := New(c, text)
	wantState(t, "New of what is refused", s, api.State{})
	if l != line || got != e {
		t.Fatalf("New(%+v, %q) tells %d, %d; want %d, %d", c, text, l, got, line, e)
	}
	for _, script := range [][]api.Event{nil, {accept(1), data(0, frame(5, 17, readOne))}} {
		s, outs, got := Run(c, text, script)
		wantState(t, "Run of what is refused", s, api.State{})
		wantOuts(t, "Run of what is refused", outs)
		if got != e {
			t.Fatalf("Run(%+v, %q) tells %d; want %d", c, text, got, e)
		}
	}
}

// P25.1: a conf that may not be is ErrArg, whatever the policy is.
func TestNewOfWrongConf(t *testing.T) {
	for _, c := range []api.Conf{
		{}, {Conns: 0, Pend: 1, Wait: 1}, {Conns: 17, Pend: 1, Wait: 1}, {Conns: -1, Pend: 1, Wait: 1},
		{Conns: 1, Pend: 0, Wait: 1}, {Conns: 1, Pend: 65, Wait: 1}, {Conns: 1, Pend: -1, Wait: 1},
		{Conns: 1, Pend: 1, Wait: 0}, {Conns: 1, Pend: 1, Wait: 1<<20 + 1}, {Conns: 1, Pend: 1, Wait: -1},
		{Conns: math.MinInt, Pend: math.MaxInt, Wait: math.MinInt},
	} {
		for _, text := range []string{"", "allow;", "maybe;", "allow when func 300;", "allow", strings.Repeat(" ", 5000)} {
			wantRefused(t, c, text, 0, api.ErrArg)
		}
	}
}

// P25.1, P1: the error of a policy, and its line; what is refused lets nothing pass.
func TestNewOfWrongPolicy(t *testing.T) {
	for _, one := range []struct {
		text string
		line int
		e    api.Errno
	}{
		{"maybe;", 1, api.ErrForm},
		{"allow", 0, api.ErrForm},
		{"allow;\nallow when func 300;", 2, api.ErrRange},
		{"allow;\n\ndeny rate 1 per 2 burst 3;", 3, api.ErrForm},
		{"allow;\n\n\n?", 4, api.ErrWord},
		{"allow;\ndeny when " + strings.Repeat("not ", 17) + "func 3;", 2, api.ErrDeep},
		{strings.Repeat("allow;", 65), 1, api.ErrMany},
		{"allow;" + strings.Repeat(" ", 4091), 0, api.ErrMany},
	} {
		wantRefused(t, small, one.text, one.line, one.e)
	}
}

// P25.1: a client gets the first place that is free.
func TestAccept(t *testing.T) {
	s := wantPlay(t, small, "allow;", []api.Event{accept(7)})
	want := start(t, small, "allow;")
	want.Conns[0] = api.Conn{Open: true, Client: 7, Life: 1}
	wantState(t, "one client", s, want)
	s = wantPlay(t, small, "allow;", []api.Event{accept(7), accept(8)})
	want.Conns[1] = api.Conn{Open: true, Client: 8, Life: 1}
	wantState(t, "two clients", s, want)
	s = wantPlay(t, small, "allow;", []api.Event{accept(7), accept(8), hangUp(0)})
	want.Conns[0] = api.Conn{Life: 1}
	wantState(t, "one went", s, want)
	s = wantPlay(t, small, "allow;", []api.Event{accept(7), accept(8), hangUp(0), accept(7)})
	want.Conns[0] = api.Conn{Open: true, Client: 7, Life: 2}
	wantState(t, "one came again", s, want)
}

// P25.1, P6: who finds no place is refused, and nothing else is changed.
func TestAcceptWithoutAPlace(t *testing.T) {
	for n := 1; n <= 16; n++ {
		c := api.Conf{Conns: n, Pend: 1, Wait: 1}
		var l []api.Event
		for k := range n {
			l = append(l, accept(k))
		}
		full, outs := play(t, c, "allow;", l)
		wantOuts(t, "clients that found a place", outs)
		s := wantPlay(t, c, "allow;", append(l, accept(0)), closed(-1))
		wantState(t, "a client that is refused", s, full)
	}
}

// P25.1: clients are from 0 to 255; of another one nothing is taken, though there is a place.
func TestAcceptOfAnyClient(t *testing.T) {
	fresh := start(t, small, "allow;")
	for _, client := range append(ends, -1000, 1000) {
		s, outs := Do(fresh, accept(client))
		if client < 0 || client > 255 {
			wantOuts(t, "a client that may not be", outs, closed(-1))
			wantState(t, "a client that may not be", s, fresh)
			continue
		}
		wantOuts(t, "a client", outs)
		if s.Conns[0] != (api.Conn{Open: true, Client: client, Life: 1}) || s.Conns[1] != (api.Conn{}) {
			t.Fatalf("the client %d found %+v", client, s.Conns)
		}
	}
	// Where there is no place either, it is refused once.
	wantPlay(t, api.Conf{Conns: 1, Pend: 1, Wait: 1}, "allow;", []api.Event{accept(1), accept(256)}, closed(-1))
}

// P25.1: data of what isn't open do nothing, and nor does its end.
func TestConnsThatAreNotOpen(t *testing.T) {
	s, _ := play(t, small, "allow;", []api.Event{accept(1), accept(2), data(0, frame(5, 17, readOne)), hangUp(1)})
	for _, k := range ends {
		if k == 0 {
			continue
		}
		for _, text := range []string{"", "\x00", frame(5, 17, readOne), wrong} {
			wantNothing(t, s, data(k, text))
		}
		wantNothing(t, s, hangUp(k))
	}
	fresh := start(t, small, "allow;")
	wantNothing(t, fresh, data(0, wrong))
	wantNothing(t, fresh, hangUp(0))
}

// P25.1: events of other kinds do nothing.
func TestOtherKinds(t *testing.T) {
	s, _ := play(t, small, "allow;", []api.Event{accept(1), data(0, frame(5, 17, readOne)), tick()})
	for _, kind := range append(ends, 8, 9, 10) {
		if kind < 1 || kind > 5 {
			wantNothing(t, s, api.Event{Kind: kind})
			wantNothing(t, s, api.Event{Kind: kind, Client: 1, Data: wrong})
		}
	}
}

// P25.1, P2: a request that is let pass: it is written down, it goes with a number of its own, and it waits.
func TestForward(t *testing.T) {
	l := []api.Event{accept(9), accept(1), tick(), tick(), data(1, frame(5, 17, readOne))}
	s := wantPlay(t, small, "deny when func 6; allow;", l,
		logged(api.Record{Seq: 0, Tick: 2, Kind: recFrame, Conn: 1, Unit: 17, Func: 3, Verdict: 1, Rule: 1, Id: 5}),
		toDevice(frame(0, 17, readOne)))
	want := start(t, small, "deny when func 6; allow;")
	want.Conns = []api.Conn{{Open: true, Client: 9, Life: 1}, {Open: true, Client: 1, Life: 1}}
	want.Tick, want.Next, want.Seq = 2, 1, 1
	want.Pend = []api.Pending{{Outer: 0, Conn: 1, Life: 1, Id: 5, Unit: 17, Ask: api.Ask{Func: 3, Read: 100, Count: 1}, Due: 5}}
	wantState(t, "a request that waits", s, want)
	l = append(l, hangUp(0), accept(3), data(0, frame(65535, 255, writeMany)))
	s = wantPlay(t, small, "deny when func 6; allow;", l,
		logged(api.Record{Seq: 1, Tick: 2, Kind: recFrame, Conn: 0, Unit: 255, Func: 16, Verdict: 1, Rule: 1, Id: 65535}),
		toDevice(frame(1, 255, writeMany)))
	want.Conns[0] = api.Conn{Open: true, Client: 3, Life: 2}
	want.Next, want.Seq = 2, 2
	want.Pend = append(want.Pend, api.Pending{Outer: 1, Conn: 0, Life: 2, Id: 65535, Unit: 255, Ask: api.Ask{Func: 16, Write: 10, Many: 1, Values: []int{7}}, Due: 5})
	wantState(t, "two requests that wait", s, want)
}

// P25.1, P4: what isn't let pass is written down with its verdict and its rule, and is told to the client.
func TestExcuses(t *testing.T) {
	const text = "allow when client 1 and unit 17; deny when unit 17;"
	for _, one := range []struct {
		unit          int
		pdu           string
		client        int
		verdict, rule int
		code          string
	}{
		{17, readOne, 2, 2, 1, "\x83\x01"},
		{18, readOne, 1, 2, -1, "\x83\x01"},
		{17, writeOne, 2, 2, 1, "\x86\x01"},
		{17, "\x07", 1, 3, -1, "\x87\x01"},
		{17, "\x00", 1, 3, -1, "\x80\x01"},
		{17, "\xff\x01\x02", 1, 3, -1, "\xff\x01"},
		{17, "\x83\x02", 1, 3, -1, "\x83\x01"},
		{17, "\x03\xff\xff\x00\x02", 1, 4, -1, "\x83\x02"},
		{17, "\x03\x00\x64\x00\x00", 1, 5, -1, "\x83\x03"},
		{17, "\x03", 1, 5, -1, "\x83\x03"},
		{17, "\x10" + strings.Repeat("\x00", 252), 1, 5, -1, "\x90\x03"},
	} {
		l := []api.Event{accept(3), accept(one.client), tick(), data(1, frame(258, one.unit, one.pdu))}
		ahead, _ := play(t, small, text, l[:3])
		s := wantPlay(t, small, text, l,
			logged(api.Record{Tick: 1, Kind: recFrame, Conn: 1, Unit: one.unit, Func: int(one.pdu[0]), Verdict: one.verdict, Rule: one.rule, Id: 258}),
			toClient(1, frame(258, one.unit, one.code)))
		ahead.Seq = 1
		wantState(t, "a request that isn't let pass", s, ahead)
	}
}

// P25.1, P25.2: as many wait as the conf says, of all connections together; what finds no room takes no use, and no number.
func TestFull(t *testing.T) {
	for most := 1; most <= 64; most++ {
		c := api.Conf{Conns: 2, Pend: most, Wait: 3}
		l := []api.Event{accept(1), accept(2)}
		for k := range most {
			l = append(l, data(k%2, frame(k, 17, readOne)))
		}
		const text = "allow rate 1 per 2 burst 100;"
		ahead, outs := play(t, c, text, l)
		if len(ahead.Pend) != most || len(outs) != 2*most {
			t.Fatalf("%d of %d wait, with %d outputs", len(ahead.Pend), most, len(outs))
		}
		s := wantPlay(t, c, text, append(l, data(1, frame(7, 17, readOne))),
			logged(api.Record{Seq: most, Kind: recFrame, Conn: 1, Unit: 17, Func: 3, Verdict: 7, Rule: 0, Id: 7}),
			toClient(1, frame(7, 17, "\x83\x06")))
		ahead.Seq++
		wantState(t, "where no more may wait", s, ahead)
		// There is room again behind a response, and behind a client that went.
		s = wantPlay(t, c, text, append(l, device(frame(0, 17, itsOne)), data(1, frame(7, 17, readOne))),
			logged(api.Record{Seq: most + 1, Kind: recFrame, Conn: 1, Unit: 17, Func: 3, Verdict: 1, Rule: 0, Id: 7}),
			toDevice(frame(most, 17, readOne)))
		wantInts(t, "levels", s.Buckets, 200-2*(most+1))
	}
	wantPlay(t, api.Conf{Conns: 2, Pend: 1, Wait: 3}, "allow;",
		[]api.Event{accept(1), accept(2), data(0, frame(5, 17, readOne)), hangUp(0), data(1, frame(6, 17, readOne))},
		logged(api.Record{Seq: 1, Kind: recFrame, Conn: 1, Unit: 17, Func: 3, Verdict: 1, Id: 6}),
		toDevice(frame(1, 17, readOne)))
}

// P25.1, P4: a rule with a rate lets pass no more than that brings, of all connections together; each tick brings its part.
func TestRate(t *testing.T) {
	const text = "deny when func 6; allow rate 1 per 2 burst 2;"
	c := api.Conf{Conns: 2, Pend: 64, Wait: 100}
	l := []api.Event{accept(1), accept(2), data(0, frame(5, 17, readOne)), data(1, frame(5, 17, readOne))}
	s, _ := play(t, c, text, l)
	wantInts(t, "levels", s.Buckets, 0, 0)
	refused := []api.Out{
		logged(api.Record{Seq: 2, Kind: recFrame, Unit: 17, Func: 3, Verdict: 6, Rule: 1, Id: 5}),
		toClient(0, frame(5, 17, "\x83\x06")),
	}
	s = wantPlay(t, c, text, append(l, data(0, frame(5, 17, readOne))), refused...)
	wantInts(t, "numbers of what waits", outers(s), 0, 1)
	refused[0] = logged(api.Record{Seq: 2, Tick: 1, Kind: recFrame, Unit: 17, Func: 3, Verdict: 6, Rule: 1, Id: 5})
	s = wantPlay(t, c, text, append(l, tick(), data(0, frame(5, 17, readOne))), refused...)
	wantInts(t, "levels", s.Buckets, 0, 1)
	s = wantPlay(t, c, text, append(l, tick(), tick(), data(0, frame(5, 17, readOne))),
		logged(api.Record{Seq: 2, Tick: 2, Kind: recFrame, Unit: 17, Func: 3, Verdict: 1, Rule: 1, Id: 5}),
		toDevice(frame(2, 17, readOne)))
	wantInts(t, "levels", s.Buckets, 0, 0)
	s, _ = play(t, c, text, append(l, ticks(50)...))
	wantInts(t, "levels that are full again", s.Buckets, 0, 4)
}

// P25.1, P2: numbers go on and round, and pass by those that wait.
func TestNumbers(t *testing.T) {
	c := api.Conf{Conns: 1, Pend: 3, Wait: 1 << 20}
	l := []api.Event{accept(1), data(0, frame(7, 17, readOne)+frame(8, 17, readOne))}
	for n := 2; n <= 65535; n++ {
		l = append(l, data(0, frame(9, 17, readOne)), device(frame(n, 17, itsOne)))
	}
	s, outs, e := Run(c, "allow;", l)
	if e != api.OK || s.Next != 0 || s.Seq != 2*65536-2 {
		t.Fatalf("Run tells %d, Next %d, Seq %d", e, s.Next, s.Seq)
	}
	wantInts(t, "numbers of what waits", outers(s), 0, 1)
	wantOuts(t, "the last four", outs[len(outs)-4:],
		logged(api.Record{Seq: 2*65536 - 4, Kind: recFrame, Unit: 17, Func: 3, Verdict: 1, Id: 9}), toDevice(frame(65535, 17, readOne)),
		logged(api.Record{Seq: 2*65536 - 3, Kind: recDevice, Unit: 17, Func: 3, Verdict: 8, Rule: -1, Id: 65535}), toClient(0, frame(9, 17, itsOne)))
	s, outs = Do(s, data(0, frame(9, 17, readOne)))
	wantOuts(t, "behind the last number", outs,
		logged(api.Record{Seq: 2*65536 - 2, Kind: recFrame, Unit: 17, Func: 3, Verdict: 1, Id: 9}), toDevice(frame(2, 17, readOne)))
	wantInts(t, "numbers of what waits", outers(s), 0, 1, 2)
	if s.Next != 3 {
		t.Fatalf("Next is %d; want 3", s.Next)
	}
}

// P25.1, P3: a response goes back to the connection that asked, with its number; the request waits no more.
func TestMatch(t *testing.T) {
	l := []api.Event{accept(1), accept(2), data(0, frame(258, 17, readOne)), data(1, frame(5, 18, writeMany)), tick()}
	for _, one := range []struct {
		id, unit, conn, own int
		pdu                 string
		left                int
	}{
		{0, 17, 0, 258, itsOne, 1},
		{0, 17, 0, 258, itsFault, 1},
		{1, 18, 1, 5, itsMany, 0},
		{1, 18, 1, 5, "\x90\x0b", 0},
	} {
		ahead, _ := play(t, small, "allow;", l)
		s := wantPlay(t, small, "allow;", append(l, device(frame(one.id, one.unit, one.pdu))),
			logged(api.Record{Seq: 2, Tick: 1, Kind: recDevice, Conn: one.conn, Unit: one.unit, Func: int(one.pdu[0]), Verdict: 8, Rule: -1, Id: one.id}),
			toClient(one.conn, frame(one.own, one.unit, one.pdu)))
		ahead.Pend = ahead.Pend[one.left : one.left+1]
		ahead.Seq = 3
		wantState(t, "behind a response", s, ahead)
	}
	// Out of the order in which they were asked.
	wantPlay(t, small, "allow;", append(l, device(frame(1, 18, itsMany)+frame(0, 17, itsOne))),
		logged(api.Record{Seq: 2, Tick: 1, Kind: recDevice, Conn: 1, Unit: 18, Func: 16, Verdict: 8, Rule: -1, Id: 1}), toClient(1, frame(5, 18, itsMany)),
		logged(api.Record{Seq: 3, Tick: 1, Kind: recDevice, Conn: 0, Unit: 17, Func: 3, Verdict: 8, Rule: -1, Id: 0}), toClient(0, frame(258, 17, itsOne)))
}

// P25.1, P3: what answers no request that waits goes nowhere, and changes nothing.
func TestDrop(t *testing.T) {
	l := []api.Event{accept(1), accept(2), tick(), data(1, frame(258, 17, readOne))}
	ahead, _ := play(t, small, "allow;", l)
	ahead.Seq = 2
	for _, one := range []struct {
		id, unit int
		pdu      string
	}{
		{1, 17, itsOne}, {258, 17, itsOne}, {256, 17, itsOne}, {65535, 17, itsOne},
		{0, 16, itsOne}, {0, 18, itsOne}, {0, 0, itsOne},
		{0, 17, readOne}, {0, 17, "\x03"}, {0, 17, "\x03\x02\x00"}, {0, 17, "\x03\x02\x00\x07\x00"}, {0, 17, "\x03\x04\x00\x07\x00\x08"},
		{0, 17, "\x04\x02\x00\x07"}, {0, 17, "\x84\x02"}, {0, 17, "\x83\x07"}, {0, 17, "\x83"}, {0, 17, "\x83\x02\x00"}, {0, 17, "\x00"}, {0, 17, "\xff"},
	} {
		s := wantPlay(t, small, "allow;", append(l, device(frame(one.id, one.unit, one.pdu))),
			logged(api.Record{Seq: 1, Tick: 1, Kind: recDevice, Conn: -1, Unit: one.unit, Func: int(one.pdu[0]), Verdict: 9, Rule: -1, Id: one.id}))
		wantState(t, "behind a frame that answers nothing", s, ahead)
	}
}

// P25.1, P3: a response goes back once.
func TestResponseTwice(t *testing.T) {
	l := []api.Event{accept(1), data(0, frame(5, 17, readOne)), device(frame(0, 17, itsOne)), device(frame(0, 17, itsOne))}
	s := wantPlay(t, small, "allow;", l,
		logged(api.Record{Seq: 2, Kind: recDevice, Conn: -1, Unit: 17, Func: 3, Verdict: 9, Rule: -1}))
	if len(s.Pend) != 0 {
		t.Fatalf("%+v waits", s.Pend)
	}
}

// P25.1, P3, P6: where a client went, nothing of it waits; who comes to its place gets nothing that was the other one's.
func TestClose(t *testing.T) {
	l := []api.Event{accept(1), accept(2), data(0, frame(5, 17, readOne)+frame(6, 17, readOne)[:9]), data(1, frame(7, 17, readOne)), hangUp(0)}
	s := wantPlay(t, small, "allow;", l)
	want := start(t, small, "allow;")
	want.Conns = []api.Conn{{Life: 1}, {Open: true, Client: 2, Life: 1}}
	want.Pend = []api.Pending{{Outer: 1, Conn: 1, Life: 1, Id: 7, Unit: 17, Ask: api.Ask{Func: 3, Read: 100, Count: 1}, Due: 3}}
	want.Next, want.Seq = 2, 2
	wantState(t, "where a client went", s, want)
	drop := logged(api.Record{Seq: 2, Kind: recDevice, Conn: -1, Unit: 17, Func: 3, Verdict: 9, Rule: -1})
	wantPlay(t, small, "allow;", append(l, device(frame(0, 17, itsOne))), drop)
	wantPlay(t, small, "allow;", append(l, accept(1), device(frame(0, 17, itsOne))), drop)
	// Its stream begins anew: what was left there isn't a frame's beginning any more.
	wantPlay(t, small, "allow;", append(l, accept(1), data(0, frame(6, 17, readOne)[9:])))
	wantPlay(t, small, "allow;", append(l, accept(1), data(0, frame(9, 17, readOne))),
		logged(api.Record{Seq: 2, Kind: recFrame, Unit: 17, Func: 3, Verdict: 1, Id: 9}), toDevice(frame(2, 17, readOne)))
	wantPlay(t, small, "allow;", events(l, ticks(3)), toClient(1, frame(7, 17, "\x83\x0b")))
}

// P25.1, P6: a stream that is none is closed, behind the frames that were whole; nothing of it waits.
func TestBroken(t *testing.T) {
	for _, end := range []string{
		wrong, wrong + "\x11\x03", wrong + frame(6, 17, readOne),
		"\x00\x01\xff\xff\x00\x06", "\x00\x01\x00\x00\x00\x00", "\x00\x01\x00\x00\x00\x01\x11", "\x00\x01\x00\x00\x00\xff", "\x00\x01\x00\x00\x01\x06", strings.Repeat("\xff", 300),
	} {
		l := []api.Event{accept(1), accept(2), tick(), data(1, frame(4, 17, readOne)), data(1, frame(5, 17, "\x07")+end)}
		s := wantPlay(t, small, "allow;", l,
			logged(api.Record{Seq: 1, Tick: 1, Kind: recFrame, Conn: 1, Unit: 17, Func: 7, Verdict: 3, Rule: -1, Id: 5}),
			toClient(1, frame(5, 17, "\x87\x01")),
			logged(api.Record{Seq: 2, Tick: 1, Kind: recBroken, Conn: 1, Verdict: 10, Rule: -1}),
			closed(1))
		want := start(t, small, "allow;")
		want.Conns = []api.Conn{{Open: true, Client: 1, Life: 1}, {Life: 1}}
		want.Tick, want.Next, want.Seq = 1, 1, 3
		wantState(t, "behind a stream that is none", s, want)
		wantNothing(t, s, data(1, frame(6, 17, readOne)))
		// What went to the device ahead of its end went, and its response goes nowhere.
		wantPlay(t, small, "allow;", append(l, device(frame(0, 17, itsOne))),
			logged(api.Record{Seq: 3, Tick: 1, Kind: recDevice, Conn: -1, Unit: 17, Func: 3, Verdict: 9, Rule: -1}))
	}
	wantPlay(t, small, "allow;", []api.Event{accept(1), data(0, frame(5, 17, readOne)+wrong)},
		logged(api.Record{Seq: 0, Kind: recFrame, Unit: 17, Func: 3, Verdict: 1, Id: 5}), toDevice(frame(0, 17, readOne)),
		logged(api.Record{Seq: 1, Kind: recBroken, Verdict: 10, Rule: -1}), closed(0))
}

// P25.1, P3: what isn't answered in Wait ticks is told so, in the order in which it was asked, and waits no more.
func TestTick(t *testing.T) {
	for _, wait := range []int{1, 2, 3, 10} {
		c := api.Conf{Conns: 2, Pend: 4, Wait: wait}
		l := []api.Event{accept(1), accept(2), tick(), data(1, frame(258, 18, writeMany)), data(0, frame(5, 17, readOne)), data(1, frame(6, 17, readOne))}
		ahead, _ := play(t, c, "allow;", events(l, ticks(wait-1)))
		if len(ahead.Pend) != 3 || ahead.Tick != wait {
			t.Fatalf("at the tick %d: %+v", ahead.Tick, ahead.Pend)
		}
		s := wantPlay(t, c, "allow;", events(l, ticks(wait)),
			toClient(1, frame(258, 18, "\x90\x0b")), toClient(0, frame(5, 17, "\x83\x0b")), toClient(1, frame(6, 17, "\x83\x0b")))
		ahead.Tick++
		ahead.Pend = nil
		wantState(t, "behind the last tick", s, ahead)
		wantPlay(t, c, "allow;", events(l, ticks(wait), []api.Event{device(frame(1, 17, itsOne))}),
			logged(api.Record{Seq: 3, Tick: 1 + wait, Kind: recDevice, Conn: -1, Unit: 17, Func: 3, Verdict: 9, Rule: -1, Id: 1}))
	}
	// What was asked later waits longer.
	l := []api.Event{accept(1), data(0, frame(5, 17, readOne)), tick(), data(0, frame(6, 17, readOne)), tick(), tick()}
	s := wantPlay(t, small, "allow;", l, toClient(0, frame(5, 17, "\x83\x0b")))
	wantInts(t, "numbers of what waits", outers(s), 1)
	wantPlay(t, small, "allow;", append(l, tick()), toClient(0, frame(6, 17, "\x83\x0b")))
}

// P25.1: a tick is one more, MaxTick at most; levels are those a tick later there too.
func TestLastTick(t *testing.T) {
	s := start(t, small, "allow rate 1 per 2 burst 3;")
	s.Buckets[0] = 2
	for _, one := range []struct{ tick, next int }{{0, 1}, {1<<40 - 2, 1<<40 - 1}, {1<<40 - 1, 1 << 40}, {1 << 40, 1 << 40}} {
		s.Tick = one.tick
		next, outs := Do(s, tick())
		wantOuts(t, "a tick", outs)
		want := s
		want.Tick, want.Buckets = one.next, []int{3}
		wantState(t, "a tick", next, want)
	}
}

// P25.1: a device's stream that is none: all is closed, behind the frames that were whole, and nothing happens any more.
func TestDead(t *testing.T) {
	for _, end := range []string{wrong, wrong + frame(1, 17, itsOne), "\x00\x00\x00\x00\x00\x01", "\x00\x00\x00\x00\x00\x00", "\x00\x00\x00\x00\x00\xff", "\x00\x00\x00\x00\x01\x06\x11\x03"} {
		l := []api.Event{
			accept(1), accept(2), data(1, frame(5, 17, readOne)), data(0, frame(6, 17, readOne)+"\x00\x01"), tick(),
			device(frame(0, 17, itsOne) + frame(9, 17, itsOne) + end),
		}
		s := wantPlay(t, small, "allow rate 1 per 1 burst 5;", l,
			logged(api.Record{Seq: 2, Tick: 1, Kind: recDevice, Conn: 1, Unit: 17, Func: 3, Verdict: 8, Rule: -1}), toClient(1, frame(5, 17, itsOne)),
			logged(api.Record{Seq: 3, Tick: 1, Kind: recDevice, Conn: -1, Unit: 17, Func: 3, Verdict: 9, Rule: -1, Id: 9}),
			logged(api.Record{Seq: 4, Tick: 1, Kind: recDead, Conn: -1, Verdict: 10, Rule: -1}),
			closedAll())
		want := start(t, small, "allow rate 1 per 1 burst 5;")
		want.Conns = []api.Conn{{Life: 1}, {Life: 1}}
		want.Device = api.Stream{Bad: true}
		want.Dead, want.Tick, want.Next, want.Seq, want.Buckets = true, 1, 2, 5, []int{4}
		wantState(t, "a machine that is dead", s, want)
		for _, e := range []api.Event{accept(1), accept(256), data(0, frame(6, 17, readOne)), data(0, wrong), hangUp(0), tick(), device(frame(1, 17, itsOne)), device(wrong), device("")} {
			wantNothing(t, s, e)
		}
	}
}

// P25.1: bytes of the device that aren't a whole frame yet wait for the others.
func TestDeviceInPieces(t *testing.T) {
	whole := frame(0, 17, itsOne)
	for at := range len(whole) {
		l := []api.Event{accept(1), data(0, frame(5, 17, readOne)), device(whole[:at])}
		s := wantPlay(t, small, "allow;", l)
		if s.Device != (api.Stream{Buf: whole[:at]}) {
			t.Fatalf("the device's stream is %+v", s.Device)
		}
		s = wantPlay(t, small, "allow;", append(l, device(whole[at:])),
			logged(api.Record{Seq: 1, Kind: recDevice, Unit: 17, Func: 3, Verdict: 8, Rule: -1}), toClient(0, frame(5, 17, itsOne)))
		if s.Device != (api.Stream{}) {
			t.Fatalf("the device's stream is %+v", s.Device)
		}
	}
}

// P25.1: the frames of one piece come one by one: each finds what the ones ahead of it left.
func TestFramesOfOnePiece(t *testing.T) {
	wantPlay(t, api.Conf{Conns: 1, Pend: 2, Wait: 3}, "allow when func 3 rate 1 per 1 burst 1; allow;",
		[]api.Event{accept(1), data(0, frame(1, 17, readOne)+frame(2, 17, readOne)+frame(3, 17, writeOne)+frame(4, 17, writeOne))},
		logged(api.Record{Seq: 0, Kind: recFrame, Unit: 17, Func: 3, Verdict: 1, Rule: 0, Id: 1}), toDevice(frame(0, 17, readOne)),
		logged(api.Record{Seq: 1, Kind: recFrame, Unit: 17, Func: 3, Verdict: 6, Rule: 0, Id: 2}), toClient(0, frame(2, 17, "\x83\x06")),
		logged(api.Record{Seq: 2, Kind: recFrame, Unit: 17, Func: 6, Verdict: 1, Rule: 1, Id: 3}), toDevice(frame(1, 17, writeOne)),
		logged(api.Record{Seq: 3, Kind: recFrame, Unit: 17, Func: 6, Verdict: 7, Rule: 1, Id: 4}), toClient(0, frame(4, 17, "\x86\x06")))
}

// P25.1, P1 to P6: the document's ten examples of the whole.
func TestExamplesOfTheWhole(t *testing.T) {
	came := []api.Event{accept(1), data(0, frame(5, 17, readOne))}
	passed := logged(api.Record{Kind: recFrame, Unit: 17, Func: 3, Verdict: 1, Id: 5})
	denied := logged(api.Record{Kind: recFrame, Unit: 17, Func: 6, Verdict: 2, Id: 5})
	wantPlay(t, small, "allow;", came, passed, toDevice(frame(0, 17, readOne)))
	wantPlay(t, small, "allow;", append(came, device(frame(0, 17, itsOne))),
		logged(api.Record{Seq: 1, Kind: recDevice, Unit: 17, Func: 3, Verdict: 8, Rule: -1}), toClient(0, frame(5, 17, itsOne)))
	wantPlay(t, small, "allow;", append(came, device(frame(0, 17, itsOne)), device(frame(0, 17, itsOne))),
		logged(api.Record{Seq: 2, Kind: recDevice, Conn: -1, Unit: 17, Func: 3, Verdict: 9, Rule: -1}))
	wantPlay(t, small, "deny when func 6; allow;", []api.Event{accept(1), data(0, frame(5, 17, writeOne))}, denied, toClient(0, frame(5, 17, "\x86\x01")))
	wantPlay(t, small, "allow when addr 0-9;", []api.Event{accept(1), data(0, frame(5, 17, "\x03\x00\x08\x00\x03"))},
		logged(api.Record{Kind: recFrame, Unit: 17, Func: 3, Verdict: 2, Rule: -1, Id: 5}), toClient(0, frame(5, 17, "\x83\x01")))
	wantPlay(t, small, "deny when not real -5 to 5; allow;", []api.Event{accept(1), data(0, frame(5, 17, "\x10\x00\x0a\x00\x04\x08\x7f\xf8\x00\x00\x00\x00\x00\x01"))},
		logged(api.Record{Kind: recFrame, Unit: 17, Func: 16, Verdict: 2, Id: 5}), toClient(0, frame(5, 17, "\x90\x01")))
	wantPlay(t, small, "allow rate 1 per 2 burst 1;", append(came, data(0, frame(6, 17, readOne))),
		logged(api.Record{Seq: 1, Kind: recFrame, Unit: 17, Func: 3, Verdict: 6, Id: 6}), toClient(0, frame(6, 17, "\x83\x06")))
	wantPlay(t, small, "allow;", []api.Event{accept(1), data(0, wrong)}, logged(api.Record{Kind: recBroken, Verdict: 10, Rule: -1}), closed(0))
	wantPlay(t, small, "allow;", append(came, device("\x00\x00\x00\x00\x00\x01")),
		logged(api.Record{Seq: 1, Kind: recDead, Conn: -1, Verdict: 10, Rule: -1}), closedAll())
	wantPlay(t, small, "allow;", events(came, ticks(3)), toClient(0, frame(5, 17, "\x83\x0b")))
}
