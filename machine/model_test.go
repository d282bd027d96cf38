package machine

import (
	"math"
	"math/rand"
	"reflect"
	"slices"
	"strconv"
	"strings"
	"testing"

	"gatewarden/api"
)

// modelText is the policy that model knows by heart.
const modelText = "deny when func 6; allow when client 1 rate 1 per 2 burst 3; allow when unit 17;"

// asked are the PDUs that the random scripts send, with what model knows of them.
type asked struct {
	pdu     string
	verdict int // 0: it is a request, and hangs on the policy
	good    []string
}

func allAsked() []asked {
	return []asked{
		{readOne, 0, []string{itsOne, itsFault}},
		{writeOne, 0, []string{writeOne}},
		{writeMany, 0, []string{itsMany, "\x90\x04"}},
		{"\x01\x00\x13\x00\x09", 0, []string{"\x01\x02\xff\x01", "\x81\x0a"}},
		{"\x07", 3, nil},
		{"\x03\xff\xff\x00\x02", 4, nil},
		{"\x03\x00\x64\x00", 5, nil},
	}
}

// waiter is a request that waits in a model.
type waiter struct {
	conn, id, unit, due int
	of                  asked
}

// client is a connection of a model.
type client struct {
	who  int
	came string
}

// model is a machine worked out by itself: what waits stands in a map by its number, with the order in which it was asked beside.
type model struct {
	c                      api.Conf
	clients                map[int]*client
	lives                  [16]int
	waits                  map[int]waiter
	order                  []int
	tick, next, seq, level int
	dead                   bool
	device                 string
	outs                   []api.Out
}

func newModel(c api.Conf) *model {
	return &model{c: c, clients: map[int]*client{}, waits: map[int]waiter{}, level: 6}
}

func (m *model) log(r api.Record) {
	r.Seq, r.Tick = m.seq, m.tick
	m.seq++
	m.outs = append(m.outs, logged(r))
}

// cut answers the first frame of s and the rest; whole is false where there is none, ok where there never will be.
func cut(s string) (id, unit int, pdu, rest string, whole, ok bool) {
	if len(s) < 6 {
		return 0, 0, "", s, false, true
	}
	n := int(s[4])<<8 | int(s[5])
	if s[2] != 0 || s[3] != 0 || n < 2 || n > 254 {
		return 0, 0, "", "", false, false
	}
	if len(s) < 6+n {
		return 0, 0, "", s, false, true
	}
	return int(s[0])<<8 | int(s[1]), int(s[6]), s[7 : 6+n], s[6+n:], true, true
}

// rule answers the place of the first rule of modelText that holds.
func (m *model) rule(who, unit int, pdu string) int {
	switch {
	case pdu[0] == 6:
		return 0
	case who == 1:
		return 1
	case unit == 17:
		return 2
	}
	return -1
}

// verdict answers the verdict and the rule of a request, and takes the use.
func (m *model) verdict(who, unit int, a asked) (int, int) {
	if a.verdict != 0 {
		return a.verdict, -1
	}
	rule := m.rule(who, unit, a.pdu)
	switch {
	case rule < 1:
		return 2, rule
	case len(m.order) >= m.c.Pend:
		return 7, rule
	case rule == 1 && m.level < 2:
		return 6, rule
	case rule == 1:
		m.level -= 2
	}
	return 1, rule
}

func (m *model) request(k, id, unit int, pdu string) {
	place := slices.IndexFunc(allAsked(), func(a asked) bool { return a.pdu == pdu })
	a := allAsked()[place]
	verdict, rule := m.verdict(m.clients[k].who, unit, a)
	m.log(api.Record{Kind: 1, Conn: k, Unit: unit, Func: int(pdu[0]), Verdict: verdict, Rule: rule, Id: id})
	if verdict != 1 {
		code := map[int]int{2: 1, 3: 1, 4: 2, 5: 3, 6: 6, 7: 6}[verdict]
		m.outs = append(m.outs, toClient(k, frame(id, unit, string([]byte{pdu[0] | 128, byte(code)}))))
		return
	}
	for {
		if _, ok := m.waits[m.next]; !ok {
			break
		}
		m.next = (m.next + 1) % 65536
	}
	m.waits[m.next] = waiter{k, id, unit, m.tick + m.c.Wait, a}
	m.order = append(m.order, m.next)
	m.outs = append(m.outs, toDevice(frame(m.next, unit, pdu)))
	m.next = (m.next + 1) % 65536
}

func (m *model) response(id, unit int, pdu string) {
	w, ok := m.waits[id]
	if !ok || w.unit != unit || !slices.Contains(w.of.good, pdu) {
		m.log(api.Record{Kind: 3, Conn: -1, Unit: unit, Func: int(pdu[0]), Verdict: 9, Rule: -1, Id: id})
		return
	}
	m.log(api.Record{Kind: 3, Conn: w.conn, Unit: unit, Func: int(pdu[0]), Verdict: 8, Rule: -1, Id: id})
	m.forget(id)
	m.outs = append(m.outs, toClient(w.conn, frame(w.id, unit, pdu)))
}

func (m *model) forget(outer int) {
	delete(m.waits, outer)
	m.order = slices.DeleteFunc(m.order, func(n int) bool { return n == outer })
}

func (m *model) leave(k int) {
	delete(m.clients, k)
	for _, outer := range slices.Clone(m.order) {
		if m.waits[outer].conn == k {
			m.forget(outer)
		}
	}
}

func (m *model) accept(who int) {
	for k := range m.c.Conns {
		if m.clients[k] == nil && who >= 0 && who <= 255 {
			m.clients[k] = &client{who: who}
			m.lives[k]++
			return
		}
	}
	m.outs = append(m.outs, closed(-1))
}

func (m *model) hear(k int, s string) {
	c := m.clients[k]
	if c == nil {
		return
	}
	c.came += s
	for {
		id, unit, pdu, rest, whole, ok := cut(c.came)
		if !ok {
			m.log(api.Record{Kind: 2, Conn: k, Verdict: 10, Rule: -1})
			m.outs = append(m.outs, closed(k))
			m.leave(k)
			return
		}
		if !whole {
			return
		}
		c.came = rest
		m.request(k, id, unit, pdu)
	}
}

func (m *model) hearDevice(s string) {
	m.device += s
	for {
		id, unit, pdu, rest, whole, ok := cut(m.device)
		if !ok {
			m.log(api.Record{Kind: 4, Conn: -1, Verdict: 10, Rule: -1})
			m.outs = append(m.outs, closedAll())
			*m = model{c: m.c, dead: true, lives: m.lives, outs: m.outs, tick: m.tick, seq: m.seq, next: m.next, level: m.level}
			return
		}
		if !whole {
			return
		}
		m.device = rest
		m.response(id, unit, pdu)
	}
}

func (m *model) goOn() {
	m.tick++
	m.level = min(6, m.level+1)
	for _, outer := range slices.Clone(m.order) {
		if w := m.waits[outer]; w.due <= m.tick {
			m.forget(outer)
			m.outs = append(m.outs, toClient(w.conn, frame(w.id, w.unit, string([]byte{w.of.pdu[0] | 128, 11}))))
		}
	}
}

func (m *model) do(e api.Event) {
	if m.dead {
		return
	}
	switch e.Kind {
	case 1:
		m.accept(e.Client)
	case 2:
		m.hear(e.Conn, e.Data)
	case 3:
		if m.clients[e.Conn] != nil {
			m.leave(e.Conn)
		}
	case 4:
		m.goOn()
	case 5:
		m.hearDevice(e.Data)
	}
}

// wantLike holds a machine against the model, field by field.
func wantLike(t *testing.T, s api.State, m *model) {
	t.Helper()
	if s.Tick != m.tick || s.Next != m.next || s.Seq != m.seq || s.Dead != m.dead || s.Conf != m.c {
		t.Fatalf("the machine %+v; the model %+v", s, m)
	}
	wantInts(t, "levels", s.Buckets, 0, m.level, 0)
	wantInts(t, "numbers of what waits", outers(s), m.order...)
	if s.Device != (api.Stream{Buf: m.device, Bad: m.dead}) || len(s.Conns) != m.c.Conns {
		t.Fatalf("the device's stream %+v, the connections %+v", s.Device, s.Conns)
	}
	for k, c := range s.Conns {
		want := api.Conn{Life: m.lives[k]}
		if o := m.clients[k]; o != nil {
			want = api.Conn{Open: true, Client: o.who, Life: m.lives[k], In: api.Stream{Buf: o.came}}
		}
		if c != want {
			t.Fatalf("the connection %d is %+v; want %+v", k, c, want)
		}
	}
	for _, p := range s.Pend {
		w := m.waits[p.Outer]
		if p.Conn != w.conn || p.Life != m.lives[w.conn] || p.Id != w.id || p.Unit != w.unit || p.Due != w.due || p.Ask.Func != int(w.of.pdu[0]) {
			t.Fatalf("%+v waits; want %+v", p, w)
		}
	}
}

// someFrames answers bytes of frames that a client may send, and sometimes of what is none.
func someFrames(r *rand.Rand) string {
	s := ""
	for range 1 + r.Intn(3) {
		a := allAsked()[r.Intn(len(allAsked()))]
		s += frame(r.Intn(65536), 15+r.Intn(4), a.pdu)
	}
	if r.Intn(40) == 0 {
		s += wrong
	}
	return s
}

// someResponse answers a frame of a device: mostly one that is waited for.
func someResponse(r *rand.Rand, m *model) string {
	if len(m.order) == 0 || r.Intn(4) == 0 {
		return frame(r.Intn(10), 17, itsOne)
	}
	outer := m.order[r.Intn(len(m.order))]
	w := m.waits[outer]
	pdu := w.of.good[r.Intn(len(w.of.good))]
	switch r.Intn(12) {
	case 0:
		return frame(outer, w.unit+1, pdu)
	case 1:
		return frame(outer, w.unit, pdu+"\x00")
	}
	return frame(outer, w.unit, pdu)
}

// someEvent answers an event; of a machine whose streams have left something, mostly what ends it.
func someEvent(r *rand.Rand, m *model) api.Event {
	k := r.Intn(m.c.Conns+2) - 1
	switch r.Intn(16) {
	case 0, 1:
		return accept([]int{0, 1, 1, 1, 2, 255, 256, -1}[r.Intn(8)])
	case 2:
		if r.Intn(3) == 0 {
			return hangUp(k)
		}
	case 3, 4, 5:
		return tick()
	case 6, 7, 8, 9:
		if r.Intn(300) == 0 {
			return device(wrong)
		}
		return device(someResponse(r, m))
	case 10:
		return api.Event{Kind: []int{0, 6, -1, math.MaxInt}[r.Intn(4)], Conn: k, Client: 1, Data: wrong}
	}
	return data(k, someFrames(r))
}

// piecesOf answers e in pieces, if it brings bytes.
func piecesOf(r *rand.Rand, e api.Event) []api.Event {
	if e.Kind != 2 && e.Kind != 5 {
		return []api.Event{e}
	}
	var l []api.Event
	for rest := e.Data; ; {
		n := r.Intn(len(rest) + 1)
		one := e
		one.Data = rest[:n]
		l = append(l, one)
		rest = rest[n:]
		if rest == "" {
			return l
		}
	}
}

// P25.1, P1 to P6: random scripts do what the model says, by Do, event by event, and by Run. P25.2: however bytes are cut; never more wait than Pend, nor are more open than Conns.
func TestRandomScripts(t *testing.T) {
	r := rand.New(rand.NewSource(25))
	seen := map[string]int{}
	for range 400 {
		c := api.Conf{Conns: 1 + r.Intn(4), Pend: 1 + r.Intn(5), Wait: 1 + r.Intn(8)}
		m, s := newModel(c), start(t, c, modelText)
		var whole, pieces []api.Event
		var outs []api.Out
		for range 150 {
			e := someEvent(r, m)
			whole, pieces = append(whole, e), append(pieces, piecesOf(r, e)...)
			next, more := Do(s, e)
			s, outs = next, append(outs, more...)
			m.do(e)
			wantLike(t, s, m)
			wantOuts(t, "Do", outs, m.outs...)
			wantBounds(t, s)
		}
		for _, l := range [][]api.Event{whole, pieces} {
			again, all := play(t, c, modelText, l)
			wantState(t, "Run", again, s)
			wantOuts(t, "Run", all, outs...)
		}
		count(seen, outs, s)
	}
	// The scripts must have been to all places, or they tell less than it seems.
	for _, what := range []string{
		"device", "client", "close", "all", "record", "dead",
		"verdict 1", "verdict 2", "verdict 3", "verdict 4", "verdict 5", "verdict 6", "verdict 7", "verdict 8", "verdict 9", "verdict 10",
	} {
		if seen[what] < 20 {
			t.Fatalf("the scripts had %q just %d times", what, seen[what])
		}
	}
}

func wantBounds(t *testing.T, s api.State) {
	t.Helper()
	open := 0
	for _, c := range s.Conns {
		if c.Open {
			open++
		}
	}
	if len(s.Pend) > s.Conf.Pend || open > s.Conf.Conns {
		t.Fatalf("%d wait, %d are open: %+v", len(s.Pend), open, s.Conf)
	}
}

// count counts what the outputs were of.
func count(seen map[string]int, outs []api.Out, s api.State) {
	for _, o := range outs {
		seen[[]string{"", "device", "client", "close", "all", "record"}[o.Kind]]++
		if o.Kind == outRecord {
			seen["verdict "+strconv.Itoa(int(o.Data[16]))]++
		}
	}
	if s.Dead {
		seen["dead"]++
	}
}

// P25.2: bytes one by one, of clients and of the device, do what they do all at once.
func TestByteByByte(t *testing.T) {
	asks := frame(1, 17, readOne) + frame(2, 17, writeOne) + frame(3, 17, "\x07") + frame(4, 17, writeMany) + frame(5, 17, "\x10"+strings.Repeat("\x00", 252))
	says := frame(0, 17, itsOne) + frame(1, 17, itsMany) + frame(0, 17, itsOne)
	for _, end := range []string{"", "\x00\x06\x00", wrong} {
		l := [][]api.Event{{accept(1), data(0, asks), device(says + end), data(0, end)}, {accept(1)}}
		for k := range asks {
			l[1] = append(l[1], data(0, asks[k:k+1]))
		}
		for _, b := range []byte(says + end) {
			l[1] = append(l[1], device(string([]byte{b})))
		}
		for _, b := range []byte(end) {
			l[1] = append(l[1], data(0, string([]byte{b})))
		}
		a, outs := play(t, small, "deny when func 6; allow;", l[0])
		b, others := play(t, small, "deny when func 6; allow;", l[1])
		wantState(t, "byte by byte", b, a)
		wantOuts(t, "byte by byte", others, outs...)
		if len(outs) < 15 {
			t.Fatalf("just %d outputs: %+v", len(outs), outs)
		}
	}
}

// P25.2: as many clients as there are places, and as many requests as may wait, in the greatest conf.
func TestGreatestConf(t *testing.T) {
	c := api.Conf{Conns: 16, Pend: 64, Wait: 1 << 20}
	var l []api.Event
	for k := range 17 {
		l = append(l, accept(255-k))
	}
	for k := range 65 {
		l = append(l, data(k%16, frame(k, k, readOne)))
	}
	s, outs := play(t, c, "allow;", l)
	wantBounds(t, s)
	if len(s.Pend) != 64 || len(outs) != 1+2*65 {
		t.Fatalf("%d wait, with %d outputs", len(s.Pend), len(outs))
	}
	for k, p := range s.Pend {
		if p.Outer != k || p.Conn != k%16 || p.Unit != k || p.Due != 1<<20 {
			t.Fatalf("%+v waits at %d", p, k)
		}
	}
	wantOuts(t, "the last one", outs[len(outs)-2:],
		logged(api.Record{Seq: 64, Conn: 0, Kind: recFrame, Unit: 64, Func: 3, Verdict: 7, Id: 64}), toClient(0, frame(64, 64, "\x83\x06")))
	s, outs = Do(s, device(wrong))
	wantOuts(t, "its end", outs, logged(api.Record{Seq: 65, Conn: -1, Kind: recDead, Verdict: 10, Rule: -1}), closedAll())
	if len(s.Pend) != 0 || slices.ContainsFunc(s.Conns, func(c api.Conn) bool { return c != api.Conn{Life: 1} }) {
		t.Fatalf("behind its end: %+v", s)
	}
}

// P25.1: the last rule that there may be is written down.
func TestLastRule(t *testing.T) {
	l := []api.Event{accept(1), data(0, frame(5, 17, readOne))}
	wantPlay(t, small, strings.Repeat("deny when func 6;", 63)+"allow;", l,
		logged(api.Record{Kind: recFrame, Unit: 17, Func: 3, Verdict: 1, Rule: 63, Id: 5}), toDevice(frame(0, 17, readOne)))
	wantPlay(t, small, strings.Repeat("deny when func 6;", 64), l,
		logged(api.Record{Kind: recFrame, Unit: 17, Func: 3, Verdict: 2, Rule: -1, Id: 5}), toClient(0, frame(5, 17, "\x83\x01")))
}

// busy answers a machine in which all lists hold something.
func busy(t *testing.T) api.State {
	t.Helper()
	s, _ := play(t, small, "deny when not (func 3,16 or unit 1) and real -5 to 5; allow rate 1 per 2 burst 9; allow;", []api.Event{
		accept(1), accept(2), tick(), data(0, frame(5, 17, writeMany)+"\x00\x01"), data(1, frame(6, 17, readOne)), device("\x00"),
	})
	return s
}

// spare answers l with spare room behind it, and something that must stay there.
func spare[T any](l []T, mark T) []T {
	return append(append(make([]T, 0, len(l)+3), l...), mark)[:len(l)]
}

// withSpare answers s with spare room behind each of its lists.
func withSpare(s api.State) api.State {
	s.Rules = spare(s.Rules, api.Rule{Line: 99})
	s.Nodes = spare(s.Nodes, api.Node{Rule: 99})
	s.Conns = spare(s.Conns, api.Conn{Life: 99})
	s.Pend = spare(s.Pend, api.Pending{Outer: 99})
	s.Buckets = spare(s.Buckets, 99)
	for k := range s.Pend {
		s.Pend[k].Ask.Values = spare(s.Pend[k].Ask.Values, 99)
	}
	return s
}

// marks answers what stands in the spare room.
func marks(s api.State) []int {
	l := []int{
		s.Rules[:len(s.Rules)+1][len(s.Rules)].Line,
		s.Nodes[:len(s.Nodes)+1][len(s.Nodes)].Rule,
		s.Conns[:len(s.Conns)+1][len(s.Conns)].Life,
		s.Pend[:len(s.Pend)+1][len(s.Pend)].Outer,
		s.Buckets[:len(s.Buckets)+1][len(s.Buckets)],
	}
	for _, p := range s.Pend {
		l = append(l, p.Ask.Values[:len(p.Ask.Values)+1][len(p.Ask.Values)])
	}
	return l
}

// someOfEachKind are events that change each of the lists of busy.
func someOfEachKind() []api.Event {
	return []api.Event{
		accept(3), accept(256), data(0, "\x00\x00"), data(0, wrong), data(1, frame(7, 17, readOne)), data(1, wrong), hangUp(0), hangUp(1), hangUp(2),
		tick(), device("\x00\x00\x00\x00\x05\x11" + itsMany), device(frame(9, 17, itsOne)), device(wrong), {}, {Kind: 6},
	}
}

// Rule 5: the machine that is handed in stays, its spare room too.
func TestHandedInStays(t *testing.T) {
	for _, e := range someOfEachKind() {
		s, same := withSpare(busy(t)), busy(t)
		before := marks(s)
		Do(s, e)
		wantState(t, "what was handed in", s, same)
		wantInts(t, "its spare room", marks(s), before...)
	}
	l := append(make([]api.Event, 0, 5), accept(1), data(0, frame(5, 17, readOne)), tick())
	l = append(l, device("x"))[:3]
	Run(small, "allow;", l)
	if want := []api.Event{accept(1), data(0, frame(5, 17, readOne)), tick(), device("x")}; !slices.Equal(l[:4], want) {
		t.Fatalf("the events are %+v; want %+v", l[:4], want)
	}
}

// spoil writes over all that the lists of s hold, their spare room too.
func spoil(s api.State) {
	spoilAll(s.Rules, func(r *api.Rule) { spoilExpr(&r.When); *r = api.Rule{Line: -7} })
	spoilAll(s.Nodes, func(n *api.Node) { spoilExpr(&n.Atom); *n = api.Node{Rule: -7} })
	spoilAll(s.Conns, func(c *api.Conn) { *c = api.Conn{Life: -7} })
	spoilAll(s.Pend, func(p *api.Pending) {
		spoilAll(p.Ask.Values, func(n *int) { *n = -7 })
		*p = api.Pending{Outer: -7}
	})
	spoilAll(s.Buckets, func(n *int) { *n = -7 })
}

func spoilExpr(e *api.Expr) {
	spoilAll(e.Ranges, func(r *api.Range) { *r = api.Range{Low: -7, High: -7} })
	spoilAll(e.Of, spoilExpr)
	*e = api.Expr{Kind: -7}
}

func spoilAll[T any](l []T, one func(*T)) {
	l = l[:cap(l)]
	for k := range l {
		one(&l[k])
	}
}

// Rule 5: a machine that is answered shares nothing with the one that was handed in, nor with one that was answered before.
func TestAnswersShareNothing(t *testing.T) {
	for _, e := range someOfEachKind() {
		s, same := busy(t), busy(t)
		want, _ := Do(busy(t), e)
		next, _ := Do(s, e)
		spoil(next)
		wantState(t, "what was handed in, behind a change of the answer", s, same)
		next, _ = Do(s, e)
		spoil(s)
		wantState(t, "the answer, behind a change of what was handed in", next, want)
	}
	for _, text := range []string{"allow when func 3,4 and not unit 7;", modelText} {
		s, want := start(t, small, text), start(t, small, text)
		// Its rules and its tree don't share either: one list of an answer isn't another one's.
		spoilAll(s.Rules, func(r *api.Rule) { spoilExpr(&r.When) })
		if !reflect.DeepEqual(s.Nodes, want.Nodes) {
			t.Fatalf("the tree of %q is changed with its rules", text)
		}
		spoil(s)
		wantState(t, "a machine made before another one was changed", want, start(t, small, text))
	}
}

// Rule 6: what was done before counts for nothing.
func TestNothingIsKept(t *testing.T) {
	for _, e := range someOfEachKind() {
		want, outs := Do(busy(t), e)
		for _, other := range someOfEachKind() {
			Do(busy(t), other)
			Run(small, "deny;", []api.Event{accept(1), other})
			New(api.Conf{}, "deny;")
			s, again := Do(busy(t), e)
			wantState(t, "the same again", s, want)
			wantOuts(t, "the same again", again, outs...)
		}
	}
}

// Rule 1: what isn't a machine that New and Do made ends without a panic, and sends nothing that doesn't wait.
func TestNoMachine(t *testing.T) {
	open := []api.Conn{{Open: true, Client: 1, Life: 1}}
	waits := []api.Pending{{Outer: 0, Conn: 7, Unit: 17, Ask: api.Ask{Func: 3, Read: 100, Count: 1}, Due: 1}, {Outer: -1, Id: -1, Ask: api.Ask{Func: 200}}}
	allow := start(t, small, "allow;")
	for _, s := range []api.State{
		{}, {Tick: math.MaxInt, Seq: math.MaxInt, Next: math.MaxInt}, {Tick: math.MinInt, Seq: math.MinInt, Next: math.MinInt},
		{Conns: open, Conf: small}, {Conns: open, Conf: small, Rules: allow.Rules}, {Conns: open, Conf: small, Nodes: allow.Nodes},
		{Conns: open, Conf: small, Rules: allow.Rules, Nodes: allow.Nodes, Pend: waits, Next: -1},
		{Conns: []api.Conn{{Open: true, In: api.Stream{Bad: true}}}, Device: api.Stream{Bad: true}, Pend: waits},
	} {
		for _, e := range append(someOfEachKind(), data(0, frame(5, 17, readOne)), device(frame(0, 17, itsOne))) {
			next, outs := Do(s, e)
			for _, o := range outs {
				if o.Data == "" && (o.Kind == outDevice || o.Kind == outClient) {
					t.Fatalf("%+v goes, and is no frame", o)
				}
				if o.Kind == outDevice && !slices.ContainsFunc(next.Pend, func(p api.Pending) bool { return o.Data[:2] == frame(p.Outer, 0, "")[:2] }) {
					t.Fatalf("%+v goes to the device, and doesn't wait: %+v", o, next.Pend)
				}
			}
		}
	}
	// The number 0 waits already, and -1 is none from which another one is sought: nothing goes.
	s := api.State{Conf: api.Conf{Conns: 1, Pend: 3, Wait: 1}, Rules: allow.Rules, Nodes: allow.Nodes, Buckets: []int{0}, Conns: open, Pend: waits, Next: -1}
	next, outs := Do(s, data(0, frame(5, 17, readOne)))
	wantOuts(t, "without a number", outs, logged(api.Record{Kind: recFrame, Unit: 17, Func: 3, Verdict: 1, Id: 5}))
	wantInts(t, "numbers of what waits", outers(next), 0, -1)
}
