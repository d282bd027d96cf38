package pend

import (
	"math"
	"math/rand"
	"reflect"
	"slices"
	"testing"

	"gatewarden/api"
)

// ends are numbers that a field, a tick, a place or a most may be: small ones, those about 0 and 65535, and the ends of int.
var ends = []int{
	0, 1, 2, 3, 5, 7, 63, 64, 65, 255, 256, 65534, 65535, 65536, 65537, 131072,
	-1, -2, -3, -64, -65535, -65536,
	1<<31 - 1, 1 << 31, 1<<32 - 1, 1 << 32, 1<<32 + 1, 1 << 40, 1<<40 + 1, -1 << 31, -1 << 32,
	math.MaxInt, math.MaxInt - 1, math.MinInt, math.MinInt + 1,
}

// one answers a request of these, whose other fields are told by its Outer, so that no two are alike.
func one(outer, conn, due int) api.Pending {
	return api.Pending{
		Outer: outer, Conn: conn, Life: outer ^ 21, Id: outer ^ 34, Unit: outer ^ 55,
		Ask: api.Ask{Func: 16, Read: outer ^ 3, Count: outer ^ 4, Write: outer ^ 5, Many: 2, Values: []int{outer, conn}},
		Due: due,
	}
}

// some answers as many requests as outers, of connections that go round from 0 to 2, each due one tick behind the one ahead of it.
func some(outers ...int) []api.Pending {
	var l []api.Pending
	for k, outer := range outers {
		l = append(l, one(outer, k%3, 10+k))
	}
	return l
}

// plain answers copies of l, by which lists that hold nothing are alike, nil or empty.
func plain(l []api.Pending) []api.Pending {
	all := []api.Pending{}
	for _, p := range l {
		p.Ask.Values = append([]int{}, p.Ask.Values...)
		all = append(all, p)
	}
	return all
}

func isSame(a, b []api.Pending) bool {
	return reflect.DeepEqual(plain(a), plain(b))
}

// The first wrong answer ends a test: the loops over many lists would tell thousands of them.
func wantList(t *testing.T, what string, got, want []api.Pending) {
	t.Helper()
	if !isSame(got, want) {
		t.Fatalf("%s: %v; want %v", what, got, want)
	}
}

func wantRight(t *testing.T, l []api.Pending, want bool) {
	t.Helper()
	if got := Right(l); got != want {
		t.Fatalf("Right(%v) = %v; want %v", l, got, want)
	}
}

func wantAdd(t *testing.T, l []api.Pending, p api.Pending, most int, want []api.Pending, e api.Errno) {
	t.Helper()
	got, f := Add(l, p, most)
	if f != e {
		t.Fatalf("Add(%v, %v, %d) tells %d; want %d", l, p, most, f, e)
	}
	wantList(t, "Add", got, want)
}

func wantFind(t *testing.T, l []api.Pending, outer, want int) {
	t.Helper()
	if got := Find(l, outer); got != want {
		t.Fatalf("Find(%v, %d) = %d; want %d", l, outer, got, want)
	}
}

func wantDue(t *testing.T, l []api.Pending, tick int, due, rest []api.Pending) {
	t.Helper()
	a, b := Due(l, tick)
	wantList(t, "what is due", a, due)
	wantList(t, "what isn't due", b, rest)
}

func wantOuters(t *testing.T, l []api.Pending, want ...int) {
	t.Helper()
	if got := Outers(l); !slices.Equal(got, want) {
		t.Fatalf("Outers(%v) = %v; want %v", l, got, want)
	}
}

// P20.1: requests may be, unless two have one Outer: whichever two these are.
func TestRight(t *testing.T) {
	wantRight(t, nil, true)
	wantRight(t, []api.Pending{}, true)
	wantRight(t, some(7), true)
	wantRight(t, some(7, 8), true)
	wantRight(t, some(8, 7, 9), true)
	wantRight(t, some(7, 7), false)
	wantRight(t, some(7, 7, 7), false)
	wantRight(t, some(7, 8, 7), false)
	wantRight(t, some(7, 8, 8), false)
	wantRight(t, some(7, 7, 8), false)
	wantRight(t, some(0, 0), false)
	wantRight(t, []api.Pending{{}}, true)
	wantRight(t, []api.Pending{{}, {}}, false)
}

// P20.1, rule 7: an Outer may be any number, and is another one than all others.
func TestRightOfAnyOuter(t *testing.T) {
	wantRight(t, some(ends...), true)
	for i, a := range ends {
		for k, b := range ends {
			wantRight(t, some(a, b), i != k)
			wantRight(t, some(a, 4, b), i != k)
		}
		wantRight(t, append(some(ends...), one(a, 9, 9)), false)
	}
}

// P20.1: the Outer alone counts for Right: others may be alike, and where it is alike others may be unlike.
func TestRightGoesByOuter(t *testing.T) {
	p := one(7, 3, 5)
	q := p
	q.Outer = 8
	wantRight(t, []api.Pending{p, q}, true)
	q = api.Pending{Outer: 7}
	wantRight(t, []api.Pending{p, q}, false)
	wantRight(t, []api.Pending{q, p}, false)
	wantRight(t, []api.Pending{{Outer: 1, Id: 5}, {Outer: 5, Id: 1}}, true)
}

// P20.1: great lists, and one request that stands there twice, far apart.
func TestRightOfMany(t *testing.T) {
	var l []api.Pending
	for outer := range 65536 {
		l = append(l, api.Pending{Outer: outer * 7 % 65536})
	}
	wantRight(t, l, true)
	for _, k := range []int{0, 1, 30000, 65534} {
		wantRight(t, append(slices.Clone(l), l[k]), false)
		wantRight(t, append([]api.Pending{l[len(l)-1-k]}, l...), false)
	}
}

// P20.1: one behind the other, up to most.
func TestAdd(t *testing.T) {
	var l []api.Pending
	all := some(5, 3, 9, 1, 0, 65535)
	for k, p := range all {
		wantAdd(t, l, p, len(all), all[:k+1], api.OK)
		l, _ = Add(l, p, len(all))
	}
	wantAdd(t, []api.Pending{}, all[0], 1, all[:1], api.OK)
	wantAdd(t, all[:5], all[5], api.MaxPend, all, api.OK)
	wantAdd(t, all[:5], all[5], math.MaxInt, all, api.OK)
	wantAdd(t, nil, api.Pending{}, 1, []api.Pending{{}}, api.OK)
}

// P20.1: as many as most, or more, wait already: one less and there is room.
func TestAddFull(t *testing.T) {
	l := some(5, 3, 9, 1)
	p := one(7, 7, 7)
	for most := -3; most <= 4; most++ {
		wantAdd(t, l, p, most, l, api.ErrFull)
	}
	wantAdd(t, l, p, 5, append(slices.Clone(l), p), api.OK)
	wantAdd(t, l, p, 6, append(slices.Clone(l), p), api.OK)
	wantAdd(t, l, p, math.MinInt, l, api.ErrFull)
	wantAdd(t, nil, p, 0, nil, api.ErrFull)
	wantAdd(t, []api.Pending{}, p, 0, nil, api.ErrFull)
	wantAdd(t, nil, p, -1, nil, api.ErrFull)
	wantAdd(t, nil, p, math.MinInt, nil, api.ErrFull)
	wantAdd(t, nil, p, 1, []api.Pending{p}, api.OK)
}

// P20.1: one that waits has the Outer: the first, one between, or the last one, and whatever else it has.
func TestAddTwice(t *testing.T) {
	l := some(5, 3, 9, 1)
	for _, p := range l {
		wantAdd(t, l, p, 5, l, api.ErrArg)
		wantAdd(t, l, p, math.MaxInt, l, api.ErrArg)
		wantAdd(t, l, api.Pending{Outer: p.Outer}, 5, l, api.ErrArg)
		wantAdd(t, l, one(p.Outer, 99, 99), 5, l, api.ErrArg)
		wantAdd(t, []api.Pending{p}, p, 2, []api.Pending{p}, api.ErrArg)
	}
	wantAdd(t, []api.Pending{{}}, api.Pending{}, 2, []api.Pending{{}}, api.ErrArg)
}

// Rule 2: where there is neither room nor a free Outer, it is ErrFull, which P20.1 names first.
func TestAddFullAndTwice(t *testing.T) {
	l := some(5, 3, 9, 1)
	for _, p := range l {
		for _, most := range []int{math.MinInt, -1, 0, 1, 3, 4} {
			wantAdd(t, l, p, most, l, api.ErrFull)
		}
	}
}

// P20.1: what stands in other fields is no Outer; a request like one that waits but for its Outer has room.
func TestAddGoesByOuter(t *testing.T) {
	l := []api.Pending{{Outer: 1, Id: 7, Conn: 7, Due: 7, Unit: 7, Life: 7}}
	p := api.Pending{Outer: 7, Id: 1, Conn: 1}
	wantAdd(t, l, p, 2, append(slices.Clone(l), p), api.OK)
	p = l[0]
	p.Outer = 2
	wantAdd(t, l, p, 2, append(slices.Clone(l), p), api.OK)
}

// P20.1, rule 7: numbers may be any in all fields.
func TestAddOfAnyNumbers(t *testing.T) {
	var l []api.Pending
	for k, outer := range ends {
		p := one(outer, ends[(k+3)%len(ends)], ends[(k+5)%len(ends)])
		want := append(slices.Clone(l), p)
		wantAdd(t, l, p, k+1, want, api.OK)
		wantAdd(t, l, p, k, l, api.ErrFull)
		wantAdd(t, want, p, k+2, want, api.ErrArg)
		l = want
	}
}

// P20.1: the place of each, and -1 where none has the Outer.
func TestFind(t *testing.T) {
	l := some(5, 3, 9, 1, 0, 65535)
	for k, p := range l {
		wantFind(t, l, p.Outer, k)
		wantFind(t, l[:k], p.Outer, -1)
		wantFind(t, l[k:], p.Outer, 0)
	}
	for _, outer := range []int{2, 4, 6, 10, 11, 65534, 65536, -1, -5, math.MaxInt, math.MinInt} {
		wantFind(t, l, outer, -1)
	}
	wantFind(t, nil, 0, -1)
	wantFind(t, []api.Pending{}, 0, -1)
	wantFind(t, []api.Pending{{}}, 0, 0)
	wantFind(t, []api.Pending{{Outer: 1, Conn: 7, Life: 7, Id: 7, Unit: 7, Due: 7}}, 7, -1)
}

// P20.1, rule 7: an Outer may be any number.
func TestFindAnyOuter(t *testing.T) {
	l := some(ends...)
	for k, outer := range ends {
		wantFind(t, l, outer, k)
		wantFind(t, append(slices.Clone(l[:k]), l[k+1:]...), outer, -1)
	}
}

// P20.1: without the first, one between, or the last one.
func TestDrop(t *testing.T) {
	l := some(5, 3, 9, 1)
	wantList(t, "Drop 0", Drop(l, 0), []api.Pending{l[1], l[2], l[3]})
	wantList(t, "Drop 1", Drop(l, 1), []api.Pending{l[0], l[2], l[3]})
	wantList(t, "Drop 2", Drop(l, 2), []api.Pending{l[0], l[1], l[3]})
	wantList(t, "Drop 3", Drop(l, 3), []api.Pending{l[0], l[1], l[2]})
	wantList(t, "Drop the only one", Drop(l[:1], 0), nil)
}

// P20.1: where there is no k-th one, all stay.
func TestDropNone(t *testing.T) {
	l := some(5, 3, 9, 1)
	for _, k := range []int{-1, -2, -4, -5, 4, 5, 6, 9, 64, 1 << 31, 1 << 32, -1 << 32, math.MaxInt, math.MinInt} {
		wantList(t, "Drop none", Drop(l, k), l)
		wantList(t, "Drop of nothing", Drop(nil, k), nil)
		wantList(t, "Drop of nothing", Drop([]api.Pending{}, k), nil)
	}
	wantList(t, "Drop 0 of nothing", Drop(nil, 0), nil)
	wantList(t, "Drop 1 of one", Drop(l[:1], 1), l[:1])
	wantList(t, "Drop in spare room", Drop(l[:2], 2), l[:2])
}

// P20.1: k is a place, not an Outer, nor one of the other numbers.
func TestDropGoesByPlace(t *testing.T) {
	l := some(2, 1, 0)
	wantList(t, "Drop 0", Drop(l, 0), []api.Pending{l[1], l[2]})
	wantList(t, "Drop 2", Drop(l, 2), []api.Pending{l[0], l[1]})
	wantList(t, "Drop 5", Drop(some(5, 6), 5), some(5, 6))
	wantList(t, "Drop what was found", Drop(l, Find(l, 0)), []api.Pending{l[0], l[1]})
	wantList(t, "Drop what wasn't found", Drop(l, Find(l, 9)), l)
}

// P20.1: a Due at most tick: before it, at it, and not behind it; both lists in order.
func TestDue(t *testing.T) {
	l := []api.Pending{one(4, 0, 5), one(3, 0, 7), one(2, 0, 5), one(1, 0, 6), one(0, 0, 4)}
	wantDue(t, l, 3, nil, l)
	wantDue(t, l, 4, []api.Pending{l[4]}, l[:4])
	wantDue(t, l, 5, []api.Pending{l[0], l[2], l[4]}, []api.Pending{l[1], l[3]})
	wantDue(t, l, 6, []api.Pending{l[0], l[2], l[3], l[4]}, []api.Pending{l[1]})
	wantDue(t, l, 7, l, nil)
	wantDue(t, l, 8, l, nil)
	wantDue(t, l, 0, nil, l)
	wantDue(t, l, -1, nil, l)
	wantDue(t, l, math.MaxInt, l, nil)
	wantDue(t, l, math.MinInt, nil, l)
	wantDue(t, nil, 5, nil, nil)
	wantDue(t, []api.Pending{}, 5, nil, nil)
	wantDue(t, []api.Pending{{}}, 0, []api.Pending{{}}, nil)
	wantDue(t, []api.Pending{{}}, -1, nil, []api.Pending{{}})
}

// P20.1, rule 7: any Due at any tick.
func TestDueAtAnyTick(t *testing.T) {
	for _, due := range ends {
		for _, tick := range ends {
			l := []api.Pending{one(1, 1, due)}
			if due <= tick {
				wantDue(t, l, tick, l, nil)
			} else {
				wantDue(t, l, tick, nil, l)
			}
		}
	}
}

// P20.1: those of other connections stay, in order; those of the one go, wherever they stand.
func TestLeave(t *testing.T) {
	l := []api.Pending{one(9, 3, 1), one(8, 4, 1), one(7, 3, 2), one(6, 0, 1), one(5, 4, 3), one(4, 3, 1)}
	wantList(t, "Leave 3", Leave(l, 3), []api.Pending{l[1], l[3], l[4]})
	wantList(t, "Leave 4", Leave(l, 4), []api.Pending{l[0], l[2], l[3], l[5]})
	wantList(t, "Leave 0", Leave(l, 0), []api.Pending{l[0], l[1], l[2], l[4], l[5]})
	for _, conn := range []int{1, 2, 5, 6, 9, -1, -3, math.MaxInt, math.MinInt} {
		wantList(t, "Leave none", Leave(l, conn), l)
	}
	wantList(t, "Leave of nothing", Leave(nil, 0), nil)
	wantList(t, "Leave of nothing", Leave([]api.Pending{}, 0), nil)
	wantList(t, "Leave all", Leave([]api.Pending{l[0], l[2]}, 3), nil)
}

// P20.1: the Conn counts, whichever Life it has; and no other field that has the number.
func TestLeaveGoesByConn(t *testing.T) {
	l := []api.Pending{{Outer: 1, Conn: 2, Life: 1}, {Outer: 2, Conn: 2, Life: 2}, {Outer: 3, Conn: 3, Life: 2, Id: 2, Unit: 2, Due: 2}}
	wantList(t, "Leave 2", Leave(l, 2), l[2:])
	wantList(t, "Leave 1", Leave(l, 1), l)
	for i, conn := range ends {
		for k, other := range ends {
			l := []api.Pending{one(1, other, 1)}
			if i == k {
				wantList(t, "Leave", Leave(l, conn), nil)
			} else {
				wantList(t, "Leave", Leave(l, conn), l)
			}
		}
	}
}

// P20.1: all Outers, as the requests stand, not as the numbers go.
func TestOuters(t *testing.T) {
	wantOuters(t, nil)
	wantOuters(t, []api.Pending{})
	wantOuters(t, []api.Pending{{}}, 0)
	wantOuters(t, []api.Pending{{Outer: 4, Conn: 1, Life: 2, Id: 3, Unit: 5, Due: 6}}, 4)
	wantOuters(t, some(5, 3, 9, 1), 5, 3, 9, 1)
	wantOuters(t, some(9, 5, 3, 1, 0, 65535), 9, 5, 3, 1, 0, 65535)
	wantOuters(t, some(ends...), ends...)
}

// Rule 4: requests without values, nil or empty, are told as ones without.
func TestRequestsWithoutValues(t *testing.T) {
	for _, none := range [][]int{nil, {}, []int{1, 2}[:0]} {
		p := one(7, 3, 5)
		p.Ask.Values = none
		l := []api.Pending{p}
		wantAdd(t, nil, p, 1, l, api.OK)
		wantAdd(t, l, p, 1, l, api.ErrFull)
		wantAdd(t, l, p, 2, l, api.ErrArg)
		wantList(t, "Drop none", Drop(l, 1), l)
		wantDue(t, l, 5, l, nil)
		wantDue(t, l, 4, nil, l)
		wantList(t, "Leave none", Leave(l, 4), l)
	}
}

// naive is what waits, held in another way: by Outer, and the Outers in order.
type naive struct {
	by    map[int]api.Pending
	order []int
}

func (n *naive) list() []api.Pending {
	var l []api.Pending
	for _, outer := range n.order {
		l = append(l, n.by[outer])
	}
	return l
}

func (n *naive) remove(outer int) {
	delete(n.by, outer)
	k := slices.Index(n.order, outer)
	n.order = slices.Delete(n.order, k, k+1)
}

func (n *naive) add(p api.Pending, most int) api.Errno {
	if len(n.order) >= most {
		return api.ErrFull
	}
	if _, had := n.by[p.Outer]; had {
		return api.ErrArg
	}
	n.by[p.Outer] = p
	n.order = append(n.order, p.Outer)
	return api.OK
}

// removeAll takes away what goes, and answers it.
func (n *naive) removeAll(goes func(api.Pending) bool) []api.Pending {
	var gone []api.Pending
	for _, outer := range slices.Clone(n.order) {
		if p := n.by[outer]; goes(p) {
			gone = append(gone, p)
			n.remove(outer)
		}
	}
	return gone
}

// step does one thing by chance to what waits, and the same to n.
func step(t *testing.T, chance *rand.Rand, l []api.Pending, n *naive, most, tick int) []api.Pending {
	t.Helper()
	switch chance.Intn(9) {
	default:
		p := one(chance.Intn(2*most+2), chance.Intn(5), tick+1+chance.Intn(9))
		want := n.add(p, most)
		got, e := Add(l, p, most)
		if e != want {
			t.Fatalf("Add(%v, %v, %d) tells %d; want %d", l, p, most, e, want)
		}
		l = got
	case 0:
		outer := chance.Intn(2*most + 2)
		k := Find(l, outer)
		if want := slices.Index(n.order, outer); k != want {
			t.Fatalf("Find(%v, %d) = %d; want %d", l, outer, k, want)
		}
		if k >= 0 {
			n.remove(outer)
		}
		l = Drop(l, k)
	case 1:
		due, rest := Due(l, tick)
		wantList(t, "what is due", due, n.removeAll(func(p api.Pending) bool { return p.Due <= tick }))
		l = rest
	case 2:
		conn := chance.Intn(6)
		n.removeAll(func(p api.Pending) bool { return p.Conn == conn })
		l = Leave(l, conn)
	}
	return l
}

// P20.2: through many steps never more than most wait, they may be, and what isn't due, dropped or left stays, in order.
func TestManySteps(t *testing.T) {
	chance := rand.New(rand.NewSource(202))
	for most := range 20 {
		var l []api.Pending
		n := &naive{by: map[int]api.Pending{}}
		for tick := range 3000 {
			l = step(t, chance, l, n, most, tick/4)
			wantList(t, "what waits", l, n.list())
			wantOuters(t, l, n.order...)
			wantRight(t, l, true)
			if len(l) > most {
				t.Fatalf("%d wait; want %d at most", len(l), most)
			}
		}
	}
}

// P20.2: what a call parts is there again, once, in one of the two.
func TestNothingIsLost(t *testing.T) {
	chance := rand.New(rand.NewSource(203))
	for range 3000 {
		var l []api.Pending
		for _, outer := range chance.Perm(chance.Intn(70)) {
			l = append(l, one(outer, chance.Intn(4), chance.Intn(8)))
		}
		tick, conn, k := chance.Intn(10)-1, chance.Intn(5), chance.Intn(72)-1
		var due, rest, left, kept []api.Pending
		for place, p := range l {
			if p.Due > tick {
				rest = append(rest, p)
			} else {
				due = append(due, p)
			}
			if p.Conn != conn {
				left = append(left, p)
			}
			if place != k {
				kept = append(kept, p)
			}
		}
		wantDue(t, l, tick, due, rest)
		wantList(t, "Leave", Leave(l, conn), left)
		wantList(t, "Drop", Drop(l, k), kept)
	}
}

// calls answers what each call tells of l, and p: each answer that is a list, or has one.
func calls(l []api.Pending, p api.Pending) [][]api.Pending {
	added, _ := Add(l, p, len(l)+1)
	full, _ := Add(l, p, len(l))
	twice, _ := Add(l, l[0], len(l)+1)
	due, rest := Due(l, 11)
	return [][]api.Pending{added, full, twice, due, rest, Drop(l, 0), Drop(l, 1), Drop(l, len(l)-1), Drop(l, -1), Drop(l, len(l)), Leave(l, 1), Leave(l, 9)}
}

// roomy answers three requests with room behind them and behind their values, and all of this, the room too.
func roomy() (l, whole []api.Pending) {
	whole = some(5, 3, 9, 77, 78, 79, 80)
	for k := range whole {
		whole[k].Ask.Values = append(whole[k].Ask.Values, 97, 98, 99)[:2]
	}
	return whole[:3], whole
}

// everything answers copies of l whose values have their room too.
func everything(l []api.Pending) []api.Pending {
	all := slices.Clone(l)
	for k, p := range all {
		all[k].Ask.Values = slices.Clone(p.Ask.Values[:cap(p.Ask.Values)])
	}
	return all
}

// spoil changes all that l has, its room too.
func spoil(l []api.Pending) {
	for _, p := range l[:cap(l)] {
		values := p.Ask.Values[:cap(p.Ask.Values)]
		for k := range values {
			values[k] = -12345
		}
	}
	clear(l[:cap(l)])
	_ = append(l, api.Pending{Outer: -12345})
}

// Rule 5: what is handed in stays, its spare room too.
func TestWhatIsHandedInStays(t *testing.T) {
	l, whole := roomy()
	p := one(77, 7, 7)
	p.Ask.Values = append(p.Ask.Values, 97, 98)[:2]
	before, beforeP := everything(whole), everything([]api.Pending{p})
	for range 2 {
		calls(l, p)
		Right(l)
		Find(l, 9)
		Outers(l)
		if !reflect.DeepEqual(everything(whole), before) || !reflect.DeepEqual(everything([]api.Pending{p}), beforeP) {
			t.Fatalf("behind the calls: %v, %v; want %v, %v", everything(whole), p, before, beforeP)
		}
	}
}

// An answer is new memory: whatever is done to it, what was handed in and all other answers stay.
func TestAnswersShareNothing(t *testing.T) {
	l, whole := roomy()
	p := one(77, 7, 7)
	before, beforeP := everything(whole), plain([]api.Pending{p})
	answers := calls(l, p)
	var want [][]api.Pending
	for _, a := range answers {
		want = append(want, plain(a))
	}
	for k, a := range answers {
		spoil(a)
		for i := k + 1; i < len(answers); i++ {
			wantList(t, "an answer, behind a change of another one", answers[i], want[i])
		}
		if !reflect.DeepEqual(everything(whole), before) || !isSame([]api.Pending{p}, beforeP) {
			t.Fatalf("behind a change of answer %d: %v, %v; want %v, %v", k, everything(whole), p, before, beforeP)
		}
	}
	outers := Outers(l)
	clear(outers[:cap(outers)])
	wantOuters(t, l, 5, 3, 9)
}

// Rule 5: what is handed in is not kept: if it is changed behind the call, the answers stay.
func TestWhatIsHandedInIsNotKept(t *testing.T) {
	l, whole := roomy()
	p := one(77, 7, 7)
	answers, outers := calls(l, p), Outers(l)
	var want [][]api.Pending
	for _, a := range answers {
		want = append(want, plain(a))
	}
	spoil(whole)
	spoil([]api.Pending{p})
	for k, a := range answers {
		wantList(t, "an answer, behind a change of what was handed in", a, want[k])
	}
	if !slices.Equal(outers, []int{5, 3, 9}) {
		t.Fatalf("behind a change of what was handed in, Outers told %v", outers)
	}
}

// Two requests may have one list of values; each has its own in an answer.
func TestValuesOfTwoRequestsArePartedInAnswers(t *testing.T) {
	values := []int{1, 2, 3}
	l := []api.Pending{{Outer: 1, Due: 1, Ask: api.Ask{Values: values}}, {Outer: 2, Due: 2, Ask: api.Ask{Values: values}}}
	due, rest := Due(l, 1)
	due[0].Ask.Values[0] = 9
	if !slices.Equal(rest[0].Ask.Values, []int{1, 2, 3}) || !slices.Equal(values, []int{1, 2, 3}) {
		t.Fatalf("behind a change of what is due: %v, %v", rest, values)
	}
	three, _ := Add(l, api.Pending{Outer: 3, Ask: api.Ask{Values: values}}, 3)
	three[2].Ask.Values[0] = 9
	if !slices.Equal(three[0].Ask.Values, []int{1, 2, 3}) || !slices.Equal(three[1].Ask.Values, []int{1, 2, 3}) {
		t.Fatalf("behind a change of the last one: %v", three)
	}
}

// Rule 6: a call hangs on its arguments alone: other calls between don't count.
func TestNothingIsKept(t *testing.T) {
	l := some(5, 3, 9)
	for range 3 {
		wantAdd(t, l, one(7, 7, 7), 4, append(slices.Clone(l), one(7, 7, 7)), api.OK)
		wantFind(t, l, 7, -1)
		wantRight(t, some(5, 5), false)
		wantRight(t, l, true)
		wantList(t, "Drop", Drop(l, 1), []api.Pending{l[0], l[2]})
		wantFind(t, l, 3, 1)
		wantDue(t, l, 99, l, nil)
		wantDue(t, l, 11, l[:2], l[2:])
		wantList(t, "Leave", Leave(l, 0), l[1:])
		wantOuters(t, l, 5, 3, 9)
	}
}

// Rule 1: of requests that may not be nothing is promised but that each call ends, without a panic.
func TestRequestsThatMayNotBe(t *testing.T) {
	for _, l := range [][]api.Pending{some(7, 7), some(7, 8, 7, 7, 8), slices.Repeat(some(1), 70), append(some(ends...), some(ends...)...)} {
		wantRight(t, l, false)
		calls(l, l[0])
		for _, n := range ends {
			Add(l, one(n, n, n), n)
			Find(l, n)
			Drop(l, n)
			Due(l, n)
			Leave(l, n)
		}
		Outers(l)
	}
}
