package audit

import (
	"math"
	"math/rand"
	"slices"
	"strings"
	"testing"

	"gatewarden/api"
)

// sample is a record and its bytes, worked out by hand.
type sample struct {
	r api.Record
	s string
}

func samples() []sample {
	const noughts = "\x00\x00\x00\x00\x00\x00"
	return []sample{
		{api.Record{Kind: api.RecBroken, Verdict: api.VerBroken, Rule: -1}, noughts + noughts + "\x02\x00\x00\x00\x0a\xff\x00\x00"},
		{api.Record{Seq: 1, Kind: api.RecDead, Conn: -1, Verdict: api.VerBroken, Rule: -1}, "\x00\x00\x00\x00\x00\x01" + noughts + "\x04\xff\x00\x00\x0a\xff\x00\x00"},
		{api.Record{Kind: api.RecFrame}, noughts + noughts + "\x01\x00\x00\x00\x00\x00\x00\x00"},
		{api.Record{Seq: 258, Tick: 1 << 40, Kind: api.RecFrame, Conn: -1, Unit: 17, Func: 3, Verdict: api.VerForward, Rule: 2, Id: 513}, "\x00\x00\x00\x00\x01\x02\x01\x00\x00\x00\x00\x00\x01\xff\x11\x03\x01\x02\x02\x01"},
		{api.Record{Seq: 0x010203040506 - 1<<40, Tick: 0xa1b2c3d4e5, Kind: api.RecDevice, Conn: 15, Unit: 255, Func: 131, Verdict: api.VerMatch, Rule: 63, Id: 258}, "\x00\x02\x03\x04\x05\x06\x00\xa1\xb2\xc3\xd4\xe5\x03\x0f\xff\x83\x08\x3f\x01\x02"},
		{api.Record{Seq: 1 << 40, Tick: 1<<40 - 1, Kind: api.RecDead, Conn: 1, Unit: 128, Func: 255, Verdict: 255, Rule: 0, Id: 65535}, "\x01\x00\x00\x00\x00\x00\x00\xff\xff\xff\xff\xff\x04\x01\x80\xff\xff\x00\xff\xff"},
	}
}

// field is one of a record's numbers: from where to where it may be, and where its bytes stand.
type field struct {
	name      string
	low, high int
	at, bytes int
	of        func(r *api.Record) *int
}

func fields() []field {
	return []field{
		{"Seq", 0, 1 << 40, 0, 6, func(r *api.Record) *int { return &r.Seq }},
		{"Tick", 0, 1 << 40, 6, 6, func(r *api.Record) *int { return &r.Tick }},
		{"Kind", 1, 4, 12, 1, func(r *api.Record) *int { return &r.Kind }},
		{"Conn", -1, 15, 13, 1, func(r *api.Record) *int { return &r.Conn }},
		{"Unit", 0, 255, 14, 1, func(r *api.Record) *int { return &r.Unit }},
		{"Func", 0, 255, 15, 1, func(r *api.Record) *int { return &r.Func }},
		{"Verdict", 0, 255, 16, 1, func(r *api.Record) *int { return &r.Verdict }},
		{"Rule", -1, 63, 17, 1, func(r *api.Record) *int { return &r.Rule }},
		{"Id", 0, 65535, 18, 2, func(r *api.Record) *int { return &r.Id }},
	}
}

// with answers r with another number in one field.
func (f field) with(r api.Record, n int) api.Record {
	*f.of(&r) = n
	return r
}

// numbers answers numbers that the field may have: all of them, or those about powers of two where there are too many.
func (f field) numbers() []int {
	var l []int
	if f.high < 1<<16 {
		for n := f.low; n <= f.high; n++ {
			l = append(l, n)
		}
		return l
	}
	for power := 1; power <= f.high; power *= 2 {
		for n := power - 3; n <= power+3; n++ {
			if n >= f.low && n <= f.high {
				l = append(l, n)
			}
		}
	}
	return l
}

// wrong answers numbers that the field may not have: those next to its ends, and some whose lowest bits look like a number that it may have.
func (f field) wrong() []int {
	l := []int{
		f.low - 1, f.low - 2, f.low - 255, f.low - 256, f.low - 65536, f.low - 1<<32, f.low - 1<<48,
		f.high + 1, f.high + 2, f.high + 255, f.high + 256, f.high + 65536, f.high + 1<<32, f.high + 1<<48,
		f.low + 1<<48, f.low + 1<<56, f.high - 1<<48, f.high - 1<<56,
		math.MaxInt, math.MaxInt - 1, math.MinInt, math.MinInt + 1,
	}
	// Those too that the field's bytes hold: all of them, if it has one byte.
	if f.bytes == 1 {
		for n := f.high + 1; n < 600; n++ {
			l = append(l, n)
		}
	} else {
		l = append(l, 1<<(8*f.bytes), 1<<(8*f.bytes)+1, -1<<(8*f.bytes))
	}
	if f.bytes == 6 {
		l = append(l, 1<<48-1, 1<<47, 1<<41, 1<<41-1, 1<<40+1<<39)
	}
	return l
}

// changed answers s with another byte at a place.
func changed(s string, at int, b byte) string {
	return s[:at] + string([]byte{b}) + s[at+1:]
}

// bytesOf works a number's bytes out by division, the lowest first, and puts them the other way round.
func bytesOf(n, many int) string {
	b := make([]byte, 0, many)
	for range many {
		b = append(b, byte(n%256))
		n /= 256
	}
	slices.Reverse(b)
	return string(b)
}

// laidOut works the bytes of a record that may be out, field by field, each at its place.
func laidOut(r api.Record) string {
	s := ""
	for _, f := range fields() {
		n := *f.of(&r)
		if n == -1 {
			n = 255
		}
		s = s[:f.at] + bytesOf(n, f.bytes)
	}
	return s
}

// told works out the record whose bytes s is, field by field, and whether it is one's.
func told(s string) (api.Record, bool) {
	if len(s) != 20 {
		return api.Record{}, false
	}
	r := api.Record{}
	for _, f := range fields() {
		n := 0
		for _, b := range []byte(s[f.at : f.at+f.bytes]) {
			n = n*256 + int(b)
		}
		if f.low == -1 && n == 255 {
			n = -1
		}
		if n < f.low || n > f.high {
			return api.Record{}, false
		}
		*f.of(&r) = n
	}
	return r, true
}

// The first wrong answer ends a test: the loops over many records would tell thousands of them.
func wantRight(t *testing.T, r api.Record, want bool) {
	t.Helper()
	if got := Right(r); got != want {
		t.Fatalf("Right(%+v) = %v; want %v", r, got, want)
	}
}

func wantGet(t *testing.T, s string, want api.Record) {
	t.Helper()
	if r, ok := Get(s); r != want || !ok {
		t.Fatalf("Get(%q) = %+v, %v; want %+v", s, r, ok, want)
	}
}

// wantNoGet doesn't tell the bytes where they are too many to be read.
func wantNoGet(t *testing.T, s string) {
	t.Helper()
	if r, ok := Get(s); r != (api.Record{}) || ok {
		t.Fatalf("Get of %d bytes, %q first: %+v, %v; want none", len(s), s[:min(len(s), 20)], r, ok)
	}
}

func wantAll(t *testing.T, s string, want ...api.Record) {
	t.Helper()
	if l, ok := All(s); !slices.Equal(l, want) || !ok {
		t.Fatalf("All(%q) = %+v, %v; want %+v", s, l, ok, want)
	}
}

func wantNoAll(t *testing.T, s string) {
	t.Helper()
	if l, ok := All(s); len(l) != 0 || ok {
		t.Fatalf("All of %d bytes, %q first: %+v, %v; want none", len(s), s[:min(len(s), 60)], l, ok)
	}
}

// wantRecord holds a record that may be and its bytes against each other, there and back.
func wantRecord(t *testing.T, r api.Record, s string) {
	t.Helper()
	wantRight(t, r, true)
	if got, ok := Put(r); got != s || !ok {
		t.Fatalf("Put(%+v) = %q, %v; want %q", r, got, ok, s)
	}
	wantGet(t, s, r)
	wantAll(t, s, r)
}

// wantNoRecord asks for a record that may not be.
func wantNoRecord(t *testing.T, r api.Record) {
	t.Helper()
	wantRight(t, r, false)
	if s, ok := Put(r); s != "" || ok {
		t.Fatalf("Put(%+v) = %q, %v; want none", r, s, ok)
	}
}

// wantTold asks of any bytes what is worked out of them, and answers whether they are a record's.
func wantTold(t *testing.T, s string) bool {
	t.Helper()
	r, ok := told(s)
	if ok {
		wantRecord(t, r, s)
	} else {
		wantNoGet(t, s)
	}
	return ok
}

// P23.1: records and their bytes; the first one is the chapter's: 12 noughts, 2, ..
func TestSamples(t *testing.T) {
	for _, one := range samples() {
		wantRecord(t, one.r, one.s)
	}
}

// P23.1: each number that a field may have, or some of them, among others: it may be, and stands at its place.
func TestNumbersThatMayBe(t *testing.T) {
	for _, f := range fields() {
		for _, one := range samples() {
			for _, n := range f.numbers() {
				r := f.with(one.r, n)
				wantRecord(t, r, laidOut(r))
			}
		}
	}
}

// P23.1: each number at its ends, with each other number at its ends.
func TestEnds(t *testing.T) {
	all := fields()
	for which := range 1 << len(all) {
		r := api.Record{}
		for k, f := range all {
			if which>>k&1 == 1 {
				r = f.with(r, f.high)
			} else {
				r = f.with(r, f.low)
			}
		}
		wantRecord(t, r, laidOut(r))
	}
}

// P23.1: a single number that a field may not have is enough, whatever the others are.
func TestNumbersThatMayNotBe(t *testing.T) {
	for _, f := range fields() {
		for _, one := range samples() {
			for _, n := range f.wrong() {
				wantNoRecord(t, f.with(one.r, n))
			}
		}
	}
}

// P23.1: 255 tells that there is no connection, or no rule, in bytes alone.
func TestNone(t *testing.T) {
	r := samples()[2].r
	wantNoRecord(t, api.Record{Kind: api.RecFrame, Conn: 255})
	wantNoRecord(t, api.Record{Kind: api.RecFrame, Rule: 255})
	for _, conn := range []int{-1, 0} {
		for _, rule := range []int{-1, 0} {
			r.Conn, r.Rule = conn, rule
			wantRecord(t, r, laidOut(r))
		}
	}
	for _, f := range fields() {
		if f.name != "Conn" && f.name != "Rule" {
			wantNoRecord(t, f.with(r, -1))
		}
	}
}

// P23.1: no number of a record that is zero is missing but its Kind.
func TestZero(t *testing.T) {
	wantNoRecord(t, api.Record{})
	wantNoGet(t, strings.Repeat("\x00", 20))
	wantNoAll(t, strings.Repeat("\x00", 20))
	wantNoRecord(t, api.Record{Kind: 5})
	for kind := 1; kind <= 4; kind++ {
		wantRecord(t, api.Record{Kind: kind}, strings.Repeat("\x00", 12)+string([]byte{byte(kind)})+strings.Repeat("\x00", 7))
	}
}

// P23.1: Get of another number of bytes than 20: cut off at each place, on either side, or with bytes behind, or ahead.
func TestGetOfOtherSizes(t *testing.T) {
	for _, one := range samples() {
		for at := range one.s {
			wantNoGet(t, one.s[:at])
			if at > 0 {
				wantNoGet(t, one.s[at:])
			}
		}
		for _, more := range []string{"\x00", "x", "\xff", one.s, one.s + one.s, strings.Repeat("\x00", 256), strings.Repeat(one.s, 3276)} {
			wantNoGet(t, one.s+more)
			wantNoGet(t, more+one.s)
		}
	}
	for size := range 1000 {
		if size != 20 {
			wantNoGet(t, strings.Repeat("\x01", size))
		}
	}
}

// P23.1: Get of a record's bytes with another byte at each place: another record, or none.
func TestGetOfChangedBytes(t *testing.T) {
	for _, one := range samples() {
		for at := range one.s {
			for b := range 256 {
				wantTold(t, changed(one.s, at, byte(b)))
			}
		}
	}
}

// P23.1: bytes that tell a number that may not be: a Seq or Tick beyond 2^40, another Kind, a Conn from 16 or a Rule from 64 to 254.
func TestGetOfNumbersThatMayNotBe(t *testing.T) {
	s := samples()[0].s
	for _, at := range []int{0, 6} {
		for _, long := range []string{"\x01\x00\x00\x00\x00\x01", "\x01\x00\x00\x00\x01\x00", "\x01\x01\x00\x00\x00\x00", "\x01\xff\xff\xff\xff\xff", "\x02\x00\x00\x00\x00\x00", "\x80\x00\x00\x00\x00\x00", "\xff\xff\xff\xff\xff\xff"} {
			wantNoGet(t, s[:at]+long+s[at+6:])
			wantNoAll(t, s[:at]+long+s[at+6:])
		}
	}
	for b := range 256 {
		if b < 1 || b > 4 {
			wantNoGet(t, changed(s, 12, byte(b)))
		}
		if b > 15 && b < 255 {
			wantNoGet(t, changed(s, 13, byte(b)))
		}
		if b > 63 && b < 255 {
			wantNoGet(t, changed(s, 17, byte(b)))
		}
	}
}

// P23.1: all records, one behind the other, in order; no bytes are no records.
func TestAll(t *testing.T) {
	wantAll(t, "")
	var l []api.Record
	s := ""
	for _, one := range samples() {
		l, s = append(l, one.r), s+one.s
		wantAll(t, s, l...)
		wantAll(t, one.s+one.s+one.s, one.r, one.r, one.r)
		wantAll(t, one.s+s, append([]api.Record{one.r}, l...)...)
	}
	for _, n := range []int{100, 1000, 20000} {
		wantAll(t, strings.Repeat(samples()[3].s, n), slices.Repeat([]api.Record{samples()[3].r}, n)...)
	}
}

// P23.1: All of records cut off at each place, on either side, or with bytes behind, ahead or between.
func TestAllOfOtherSizes(t *testing.T) {
	s := samples()[0].s + samples()[3].s + samples()[5].s
	for at := range s {
		if at%20 != 0 {
			wantNoAll(t, s[:at])
			wantNoAll(t, s[at:])
		}
		for _, more := range []string{"\x00", "x", "\xff\xff", s[:19], s[:21]} {
			wantNoAll(t, s[:at]+more+s[at:])
		}
	}
	for _, more := range []string{"\x00", "x", s[:19], s[:1]} {
		wantNoAll(t, s+more)
		wantNoAll(t, more+s)
		wantNoAll(t, more)
	}
}

// P23.1: All where a single record may not be, at each place, and by each of its numbers.
func TestAllWhereOneIsWrong(t *testing.T) {
	one := samples()[3].s
	for _, bad := range []string{changed(one, 0, 1), changed(one, 6, 2), changed(one, 11, 1), changed(one, 12, 0), changed(one, 12, 5), changed(one, 13, 16), changed(one, 13, 254), changed(one, 17, 64), changed(one, 17, 254)} {
		wantNoGet(t, bad)
		for n := 1; n < 6; n++ {
			for at := range n {
				wantNoAll(t, strings.Repeat(one, at)+bad+strings.Repeat(one, n-at-1))
			}
		}
	}
}

// P23.1: whole records whose bytes are moved by some places aren't those records.
func TestAllMoved(t *testing.T) {
	s := strings.Repeat(samples()[0].s, 3)
	for by := 1; by < 20; by++ {
		moved := s[by:] + s[:by]
		l, ok := All(moved)
		_, first := told(moved[:20])
		if ok != first || (!ok && len(l) != 0) {
			t.Fatalf("All(%q) = %+v, %v; want %v", moved, l, ok, first)
		}
	}
}

// someRecord makes a record that may be, its numbers small, great, or anywhere.
func someRecord(chance *rand.Rand) api.Record {
	r := api.Record{}
	for _, f := range fields() {
		n := f.low + chance.Intn(f.high-f.low+1)
		switch chance.Intn(4) {
		case 0:
			n = f.low + chance.Intn(3)
		case 1:
			n = f.high - chance.Intn(3)
		}
		r = f.with(r, n)
	}
	return r
}

// P23.2: records of any kind come back from their bytes, of which there are 20, alone and all together.
func TestRecordsThereAndBack(t *testing.T) {
	chance := rand.New(rand.NewSource(23))
	for range 300 {
		var l []api.Record
		all := ""
		for range chance.Intn(30) {
			r := someRecord(chance)
			s, ok := Put(r)
			if !ok || len(s) != 20 {
				t.Fatalf("Put(%+v) = %q, %v", r, s, ok)
			}
			wantRecord(t, r, laidOut(r))
			l, all = append(l, r), all+s
		}
		wantAll(t, all, l...)
	}
}

// P23.2: bytes of any kind come back from the record that they are; others are none.
func TestBytesThereAndBack(t *testing.T) {
	chance, found := rand.New(rand.NewSource(230)), 0
	for range 20000 {
		b := make([]byte, 20)
		for k := range b {
			b[k] = byte(chance.Intn(256))
		}
		b[0], b[6] = byte(chance.Intn(8)/7), byte(chance.Intn(8)/7)
		b[12] = byte(chance.Intn(6))
		b[13] = byte(chance.Intn(20) - 2)
		b[17] = byte(chance.Intn(70) - 2)
		if wantTold(t, string(b)) {
			found++
		}
	}
	if found < 5000 || found > 15000 {
		t.Fatalf("%d of the texts are records", found)
	}
}

// P23.2: no two records have the same bytes.
func TestNoTwoHaveTheSameBytes(t *testing.T) {
	of := map[string]api.Record{}
	for _, f := range fields() {
		for _, n := range f.numbers() {
			r := f.with(samples()[4].r, n)
			s, _ := Put(r)
			if other, is := of[s]; is && other != r {
				t.Fatalf("%+v and %+v have the bytes %q", r, other, s)
			}
			of[s] = r
		}
	}
}

// Rule 6: an answer shares nothing with the next one, and hangs on its arguments alone.
func TestAllAnswersListsOfTheirOwn(t *testing.T) {
	a, b := samples()[0], samples()[3]
	for range 3 {
		first, _ := All(a.s + b.s)
		if len(first) != 2 {
			t.Fatalf("All answers %+v", first)
		}
		clear(first[:cap(first)])
		wantAll(t, a.s+b.s, a.r, b.r)
		wantAll(t, b.s, b.r)
		wantNoAll(t, a.s+"x")
		wantRecord(t, a.r, a.s)
	}
}
