package judge

import (
	"math"
	"math/rand"
	"reflect"
	"slices"
	"strings"
	"testing"

	"gatewarden/api"
	"gatewarden/check"
	"gatewarden/compile"
	"gatewarden/facts"
	"gatewarden/mean"
)

// ends are numbers that a client, a verdict or a level may be: small ones, those about 255 and 65535, and the ends of int.
var ends = []int{
	0, 1, 2, 3, 17, 127, 128, 254, 255, 256, 257, 65535, 65536, 1<<20 - 1, 1 << 20, 1<<31 - 1, 1 << 31, 1 << 32, 1 << 40,
	-1, -2, -7, -128, -256, -1 << 31, -1 << 32, math.MaxInt, math.MaxInt - 1, math.MinInt, math.MinInt + 1,
}

// verdicts are all that there are, spelt out here so that they share nothing with what they are held against.
var verdicts = []int{1, 2, 3, 4, 5, 6, 7, 8, 9, 10}

// codes are those of the verdicts that have one.
var codes = map[int]int{3: 1, 2: 1, 4: 2, 5: 3, 6: 6, 7: 6}

// judged is what Frame tells.
type judged struct {
	ask     api.Ask
	verdict int
	rule    int
	levels  []int
}

// setup is rules and their tree.
type setup struct {
	rules []api.Rule
	nodes []api.Node
}

func policy(t *testing.T, text string) setup {
	t.Helper()
	l, line, e := check.Policy(text)
	if e != api.OK {
		t.Fatalf("check.Policy(%q): line %d, error %d: the test is wrong", text, line, e)
	}
	return setup{l, compile.Rules(l)}
}

func (s setup) judge(levels []int, client int, f api.Frame, full bool) judged {
	a, verdict, rule, behind := Frame(s.rules, s.nodes, levels, client, f, full)
	return judged{a, verdict, rule, behind}
}

func same(a, b judged) bool {
	return a.ask.Func == b.ask.Func && a.ask.Read == b.ask.Read && a.ask.Count == b.ask.Count &&
		a.ask.Write == b.ask.Write && a.ask.Many == b.ask.Many && slices.Equal(a.ask.Values, b.ask.Values) &&
		a.verdict == b.verdict && a.rule == b.rule && slices.Equal(a.levels, b.levels)
}

// The first wrong answer ends a test: the loops over many frames would tell thousands of them.
func (s setup) want(t *testing.T, levels []int, client int, f api.Frame, full bool, want judged) {
	t.Helper()
	if got := s.judge(levels, client, f, full); !same(got, want) {
		t.Fatalf("Frame(%+v, levels %v, client %d, %+v, %v) = %+v; want %+v", s.rules, levels, client, f, full, got, want)
	}
}

// wantRuled holds the verdict and the rule of a request of a client to a unit against those that must be; the levels must stay.
func (s setup) wantRuled(t *testing.T, client, unit int, one sample, verdict, rule int) {
	t.Helper()
	levels := make([]int, len(s.rules))
	s.want(t, levels, client, api.Frame{Id: 5, Unit: unit, Pdu: one.pdu}, false, judged{one.ask, verdict, rule, levels})
}

func wantCode(t *testing.T, verdict, want int) {
	t.Helper()
	if got := Code(verdict); got != want {
		t.Fatalf("Code(%d) = %d; want %d", verdict, got, want)
	}
}

func wantExcuse(t *testing.T, f api.Frame, verdict int, want api.Frame) {
	t.Helper()
	if got, ok := Excuse(f, verdict); got != want || !ok {
		t.Fatalf("Excuse(%+v, %d) = %+v, %v; want %+v", f, verdict, got, ok, want)
	}
}

func wantNoExcuse(t *testing.T, f api.Frame, verdict int) {
	t.Helper()
	if got, ok := Excuse(f, verdict); got != (api.Frame{}) || ok {
		t.Fatalf("Excuse(%+v, %d) = %+v, %v; want none", f, verdict, got, ok)
	}
}

func wantNumbers(t *testing.T, what string, got, want []int) {
	t.Helper()
	if !slices.Equal(got, want) {
		t.Fatalf("%s: %v; want %v", what, got, want)
	}
}

// sample is a request and its bytes, worked out by hand.
type sample struct {
	ask api.Ask
	pdu string
}

var (
	readTwo   = sample{api.Ask{Func: 3, Read: 100, Count: 2}, "\x03\x00\x64\x00\x02"}
	writeOne  = sample{api.Ask{Func: 6, Write: 5, Many: 1, Values: []int{258}}, "\x06\x00\x05\x01\x02"}
	writeOn   = sample{api.Ask{Func: 5, Write: 172, Many: 1, Values: []int{1}}, "\x05\x00\xac\xff\x00"}
	writeReal = sample{api.Ask{Func: 16, Write: 10, Many: 4, Values: []int{16368, 0, 0, 0}}, "\x10\x00\x0a\x00\x04\x08\x3f\xf0\x00\x00\x00\x00\x00\x00"}
)

func samples() []sample {
	return []sample{
		{api.Ask{Func: 1, Read: 19, Count: 19}, "\x01\x00\x13\x00\x13"},
		{api.Ask{Func: 2, Read: 65535, Count: 1}, "\x02\xff\xff\x00\x01"},
		readTwo,
		{api.Ask{Func: 4, Read: 65411, Count: 125}, "\x04\xff\x83\x00\x7d"},
		writeOn,
		{api.Ask{Func: 5, Write: 172, Many: 1, Values: []int{0}}, "\x05\x00\xac\x00\x00"},
		writeOne,
		{api.Ask{Func: 15, Write: 5, Many: 3, Values: []int{1, 0, 1}}, "\x0f\x00\x05\x00\x03\x01\x05"},
		writeReal,
		{api.Ask{Func: 22, Write: 4, Many: 1, Values: []int{242, 37}}, "\x16\x00\x04\x00\xf2\x00\x25"},
		{api.Ask{Func: 23, Read: 3, Count: 2, Write: 14, Many: 1, Values: []int{255}}, "\x17\x00\x03\x00\x02\x00\x0e\x00\x01\x02\x00\xff"},
	}
}

// refused are PDUs that are no requests that may be, and their verdicts.
func refused() map[string]int {
	return map[string]int{
		"\x00":                              api.VerFunc,
		"\x07":                              api.VerFunc,
		"\x07\x00\x64\x00\x02":              api.VerFunc,
		"\x18\x00\x00\x00\x00":              api.VerFunc,
		"\x83\x02":                          api.VerFunc,
		"\xff\xff\xff\xff\xff":              api.VerFunc,
		"\x03":                              api.VerValue,
		"\x03\x00\x64\x00":                  api.VerValue,
		"\x03\x00\x64\x00\x00":              api.VerValue,
		"\x03\x00\x64\x00\x7e":              api.VerValue,
		"\x03\xff\xff\x00\x7e":              api.VerValue,
		readTwo.pdu + "\x00":                api.VerValue,
		"\x05\x00\xac\x01\x00":              api.VerValue,
		writeReal.pdu[:13]:                  api.VerValue,
		"\x03\xff\xff\x00\x02":              api.VerAddr,
		"\x01\xff\xff\x07\xd0":              api.VerAddr,
		"\x04\xff\x84\x00\x7d":              api.VerAddr,
		"\x0f\xff\xff\x00\x02" + "\x01\x03": api.VerAddr,
		"\x17\xff\xff\x00\x02\x00\x0e\x00\x01\x02\x00\xff":         api.VerAddr,
		"\x17\x00\x03\x00\x02\xff\xff\x00\x02\x04\x00\xff\x00\xff": api.VerAddr,
		"\x06" + strings.Repeat("\x00", 252):                       api.VerValue,
	}
}

// P24.1: without rules each request is denied, by no rule.
func TestWithoutRules(t *testing.T) {
	for _, one := range samples() {
		for _, s := range []setup{policy(t, ""), {nil, compile.Rules(nil)}, {[]api.Rule{}, compile.Rules([]api.Rule{})}} {
			for _, levels := range [][]int{nil, {}} {
				for _, full := range []bool{false, true} {
					s.want(t, levels, 1, api.Frame{Unit: 17, Pdu: one.pdu}, full, judged{one.ask, api.VerDeny, -1, nil})
				}
			}
		}
	}
}

// P24.1: what is no request is refused by layer 6's error ahead of all else: whatever the rules, the levels, and whether there is room. No level goes down.
func TestFramesThatAreNoRequests(t *testing.T) {
	for pdu, verdict := range refused() {
		f := api.Frame{Id: 5, Unit: 17, Pdu: pdu}
		for _, full := range []bool{false, true} {
			policy(t, "").want(t, nil, 1, f, full, judged{api.Ask{}, verdict, -1, nil})
			policy(t, "allow;").want(t, []int{0}, 1, f, full, judged{api.Ask{}, verdict, -1, []int{0}})
			policy(t, "deny;").want(t, []int{0}, 1, f, full, judged{api.Ask{}, verdict, -1, []int{0}})
			rated := policy(t, "deny when func 2; allow rate 1 per 2 burst 3;")
			rated.want(t, []int{0, 6}, 1, f, full, judged{api.Ask{}, verdict, -1, []int{0, 6}})
			rated.want(t, []int{0, 0}, 1, f, full, judged{api.Ask{}, verdict, -1, []int{0, 0}})
		}
	}
}

// P24.1: each first byte that is no known function, and no other one, is VerFunc.
func TestEachFunction(t *testing.T) {
	s, known := policy(t, "allow;"), []int{1, 2, 3, 4, 5, 6, 15, 16, 22, 23}
	for fc := range 256 {
		for _, tail := range []string{"", "\x00", "\x00\x64\x00\x02", strings.Repeat("\xff", 252)} {
			got := s.judge([]int{0}, 1, api.Frame{Pdu: string([]byte{byte(fc)}) + tail}, false)
			if is := got.verdict == api.VerFunc; is == slices.Contains(known, fc) {
				t.Fatalf("of the function %d: %+v", fc, got)
			}
		}
	}
}

// P24.1: a rule that allows, without a rate: each request is let pass, and the levels stay.
func TestAllow(t *testing.T) {
	s := policy(t, "allow;")
	for _, one := range samples() {
		for _, id := range []int{0, 1, 255, 256, 65535} {
			for _, unit := range []int{0, 1, 17, 255} {
				s.want(t, []int{0}, 1, api.Frame{Id: id, Unit: unit, Pdu: one.pdu}, false, judged{one.ask, api.VerForward, 0, []int{0}})
			}
		}
	}
}

// P24.1: the level of a rule without a rate counts for nothing.
func TestLevelThatCountsForNothing(t *testing.T) {
	s := policy(t, "allow;")
	for _, level := range ends {
		s.want(t, []int{level}, 1, api.Frame{Unit: 17, Pdu: readTwo.pdu}, false, judged{readTwo.ask, api.VerForward, 0, []int{level}})
	}
}

// P24.1: a rule that denies is told as the rule, unlike no rule.
func TestDeny(t *testing.T) {
	for _, one := range samples() {
		policy(t, "deny;").wantRuled(t, 1, 17, one, api.VerDeny, 0)
		policy(t, "deny when unit 1; deny;").wantRuled(t, 1, 17, one, api.VerDeny, 1)
		policy(t, "allow when unit 1; deny when unit 17; allow;").wantRuled(t, 1, 17, one, api.VerDeny, 1)
		policy(t, "allow when unit 1; deny when unit 2;").wantRuled(t, 1, 17, one, api.VerDeny, -1)
	}
}

// P24.1: the rule is asked for by the client, the frame's Unit, and the request: each field counts.
func TestFactsOfTheFrame(t *testing.T) {
	client := policy(t, "allow when client 1-3,7; deny;")
	unit := policy(t, "allow when unit 1-3,7; deny;")
	for n := range 256 {
		verdict, rule := api.VerDeny, 1
		if n >= 1 && n <= 3 || n == 7 {
			verdict, rule = api.VerForward, 0
		}
		client.wantRuled(t, n, 17, readTwo, verdict, rule)
		client.wantRuled(t, n, 1, readTwo, verdict, rule)
		unit.wantRuled(t, 17, n, readTwo, verdict, rule)
		unit.wantRuled(t, 1, n, readTwo, verdict, rule)
	}
	for _, one := range samples() {
		of := policy(t, "deny when func 5-16; allow when func 23,1; deny when func 2-3;")
		switch one.ask.Func {
		case 1, 23:
			of.wantRuled(t, 1, 17, one, api.VerForward, 1)
		case 2, 3:
			of.wantRuled(t, 1, 17, one, api.VerDeny, 2)
		case 4, 22:
			of.wantRuled(t, 1, 17, one, api.VerDeny, -1)
		default:
			of.wantRuled(t, 1, 17, one, api.VerDeny, 0)
		}
	}
}

// P24.1: addresses, values and floats of a request count.
func TestAddressesValuesFloats(t *testing.T) {
	addr := policy(t, "allow when addr 100-101; deny;")
	addr.wantRuled(t, 1, 17, readTwo, api.VerForward, 0)
	addr.wantRuled(t, 1, 17, sample{api.Ask{Func: 3, Read: 99, Count: 2}, "\x03\x00\x63\x00\x02"}, api.VerDeny, 1)
	addr.wantRuled(t, 1, 17, sample{api.Ask{Func: 3, Read: 101, Count: 1}, "\x03\x00\x65\x00\x01"}, api.VerForward, 0)
	addr.wantRuled(t, 1, 17, sample{api.Ask{Func: 3, Read: 101, Count: 2}, "\x03\x00\x65\x00\x02"}, api.VerDeny, 1)
	both := policy(t, "allow when addr 3-4,14; deny;")
	both.wantRuled(t, 1, 17, samples()[10], api.VerForward, 0)
	policy(t, "allow when addr 3-4; deny;").wantRuled(t, 1, 17, samples()[10], api.VerDeny, 1)
	policy(t, "allow when addr 14; deny;").wantRuled(t, 1, 17, samples()[10], api.VerDeny, 1)
	value := policy(t, "allow when func 6 and value 0-258; deny;")
	value.wantRuled(t, 1, 17, writeOne, api.VerForward, 0)
	value.wantRuled(t, 1, 17, sample{api.Ask{Func: 6, Write: 5, Many: 1, Values: []int{259}}, "\x06\x00\x05\x01\x03"}, api.VerDeny, 1)
	floats := policy(t, "deny when not real -5 to 5; allow;")
	floats.wantRuled(t, 1, 17, writeReal, api.VerForward, 1)
	floats.wantRuled(t, 1, 17, writeOne, api.VerDeny, 0)
	floats.wantRuled(t, 1, 17, readTwo, api.VerForward, 1)
	notOne := sample{api.Ask{Func: 16, Write: 10, Many: 4, Values: []int{32760, 0, 0, 0}}, "\x10\x00\x0a\x00\x04\x08\x7f\xf8\x00\x00\x00\x00\x00\x00"}
	floats.wantRuled(t, 1, 17, notOne, api.VerDeny, 0)
	six := sample{api.Ask{Func: 16, Write: 10, Many: 4, Values: []int{16408, 0, 0, 0}}, "\x10\x00\x0a\x00\x04\x08\x40\x18\x00\x00\x00\x00\x00\x00"}
	floats.wantRuled(t, 1, 17, six, api.VerDeny, 0)
}

// P24.1: the document's examples of the whole: a denied function, addresses beyond those that are allowed.
func TestExamplesOfTheWhole(t *testing.T) {
	s := policy(t, "deny when func 6; allow;")
	s.wantRuled(t, 1, 17, writeOne, api.VerDeny, 0)
	s.wantRuled(t, 1, 17, readTwo, api.VerForward, 1)
	wantExcuse(t, api.Frame{Id: 5, Unit: 17, Pdu: writeOne.pdu}, api.VerDeny, api.Frame{Id: 5, Unit: 17, Pdu: "\x86\x01"})
	few := policy(t, "allow when addr 0-9;")
	few.wantRuled(t, 1, 17, sample{api.Ask{Func: 3, Read: 8, Count: 3}, "\x03\x00\x08\x00\x03"}, api.VerDeny, -1)
	few.wantRuled(t, 1, 17, sample{api.Ask{Func: 3, Read: 8, Count: 2}, "\x03\x00\x08\x00\x02"}, api.VerForward, 0)
	rated := policy(t, "allow rate 1 per 2 burst 1;")
	f := api.Frame{Id: 5, Unit: 17, Pdu: readTwo.pdu}
	rated.want(t, []int{2}, 1, f, false, judged{readTwo.ask, api.VerForward, 0, []int{0}})
	rated.want(t, []int{0}, 1, f, false, judged{readTwo.ask, api.VerRate, 0, []int{0}})
	wantExcuse(t, f, api.VerRate, api.Frame{Id: 5, Unit: 17, Pdu: "\x83\x06"})
}

// P24.1: no more may wait: ahead of the rate, and behind the rule. No use goes.
func TestFull(t *testing.T) {
	f := api.Frame{Id: 5, Unit: 17, Pdu: readTwo.pdu}
	policy(t, "allow;").want(t, []int{0}, 1, f, true, judged{readTwo.ask, api.VerFull, 0, []int{0}})
	policy(t, "deny;").want(t, []int{0}, 1, f, true, judged{readTwo.ask, api.VerDeny, 0, []int{0}})
	policy(t, "allow when unit 1;").want(t, []int{0}, 1, f, true, judged{readTwo.ask, api.VerDeny, -1, []int{0}})
	rated := policy(t, "deny when unit 1; allow rate 1 per 2 burst 3;")
	for level := range 7 {
		rated.want(t, []int{0, level}, 1, f, true, judged{readTwo.ask, api.VerFull, 1, []int{0, level}})
	}
}

// P24.1: a use takes Per of the level, if it is Per at least.
func TestRate(t *testing.T) {
	s, f := policy(t, "allow rate 2 per 3 burst 4;"), api.Frame{Id: 5, Unit: 17, Pdu: readTwo.pdu}
	for level := range 13 {
		if level < 3 {
			s.want(t, []int{level}, 1, f, false, judged{readTwo.ask, api.VerRate, 0, []int{level}})
		} else {
			s.want(t, []int{level}, 1, f, false, judged{readTwo.ask, api.VerForward, 0, []int{level - 3}})
		}
	}
}

// P24.1: a use goes out of the level of the rule that is told alone; the others stay, whatever they are.
func TestRatesOfSeveralRules(t *testing.T) {
	s := policy(t, "allow when unit 1 rate 1 per 1 burst 5; deny when unit 2; allow when unit 3 rate 1 per 2 burst 5; allow when unit 4; allow rate 1 per 3 burst 5;")
	levels := []int{5, 0, 7, 0, 15}
	for unit, want := range map[int]judged{
		1: {verdict: api.VerForward, rule: 0, levels: []int{4, 0, 7, 0, 15}},
		2: {verdict: api.VerDeny, rule: 1, levels: levels},
		3: {verdict: api.VerForward, rule: 2, levels: []int{5, 0, 5, 0, 15}},
		4: {verdict: api.VerForward, rule: 3, levels: levels},
		5: {verdict: api.VerForward, rule: 4, levels: []int{5, 0, 7, 0, 12}},
	} {
		for _, one := range samples() {
			want.ask = one.ask
			s.want(t, levels, 1, api.Frame{Id: 5, Unit: unit, Pdu: one.pdu}, false, want)
		}
	}
	// A rule that has no use left is the rule still: one behind it doesn't stand in for it.
	for _, one := range samples() {
		f := api.Frame{Id: 5, Unit: 1, Pdu: one.pdu}
		s.want(t, []int{0, 0, 7, 0, 15}, 1, f, false, judged{one.ask, api.VerRate, 0, []int{0, 0, 7, 0, 15}})
	}
}

// P24.1: all rules that there may be: each one's level is at its own place.
func TestSixtyFourRules(t *testing.T) {
	var text strings.Builder
	for range 64 {
		text.WriteString("allow when unit 0 rate 1 per 1 burst 9;")
	}
	l, _, _ := check.Policy(text.String())
	for k := range l {
		l[k].When.Ranges[0] = api.Range{Low: k, High: k}
	}
	s, levels := setup{l, compile.Rules(l)}, Levels(l)
	for k := range 65 {
		f := api.Frame{Id: 5, Unit: k, Pdu: readTwo.pdu}
		if k == 64 {
			s.want(t, levels, 1, f, false, judged{readTwo.ask, api.VerDeny, -1, levels})
			continue
		}
		behind := slices.Clone(levels)
		behind[k] = 8
		s.want(t, levels, 1, f, false, judged{readTwo.ask, api.VerForward, k, behind})
	}
}

// P24.1: the greatest rates.
func TestGreatRates(t *testing.T) {
	const most = 1 << 20
	s, f := policy(t, "allow rate 1048576 per 1048576 burst 1048576;"), api.Frame{Pdu: readTwo.pdu}
	wantNumbers(t, "the full level", Levels(s.rules), []int{1 << 40})
	s.want(t, []int{1 << 40}, 1, f, false, judged{readTwo.ask, api.VerForward, 0, []int{1<<40 - most}})
	s.want(t, []int{most}, 1, f, false, judged{readTwo.ask, api.VerForward, 0, []int{0}})
	s.want(t, []int{most - 1}, 1, f, false, judged{readTwo.ask, api.VerRate, 0, []int{most - 1}})
	wantNumbers(t, "a tick later", Tick(s.rules, []int{1<<40 - most - 1}), []int{1<<40 - 1})
	wantNumbers(t, "a tick later", Tick(s.rules, []int{1<<40 - 1}), []int{1 << 40})
	wantNumbers(t, "a tick later", Tick(s.rules, []int{0}), []int{most})
}

// P24.1, rule 7: a client may be any number.
func TestAnyClient(t *testing.T) {
	s := policy(t, "deny when client 0-255; allow;")
	for _, client := range ends {
		if client >= 0 && client <= 255 {
			s.wantRuled(t, client, 17, readTwo, api.VerDeny, 0)
		} else {
			s.wantRuled(t, client, 17, readTwo, api.VerForward, 1)
		}
	}
}

// P24.1: the code of each verdict; 0 of others, and of what is none.
func TestCode(t *testing.T) {
	for _, verdict := range verdicts {
		wantCode(t, verdict, codes[verdict])
	}
	for verdict := -300; verdict <= 300; verdict++ {
		wantCode(t, verdict, codes[verdict])
	}
	for _, verdict := range ends {
		wantCode(t, verdict, codes[verdict])
		wantCode(t, verdict|1<<33, 0)
	}
}

// P24.1: the exception has f's Id and Unit, its function's lowest seven bits and 128, and the code, whatever else stood in f.
func TestExcuse(t *testing.T) {
	for fc := range 256 {
		for _, tail := range []string{"", "\x00", "\x00\x64\x00\x02", strings.Repeat("\xff", 252)} {
			f := api.Frame{Id: 256*fc + 7, Unit: 255 - fc, Pdu: string([]byte{byte(fc)}) + tail}
			for _, verdict := range verdicts {
				if code := codes[verdict]; code == 0 {
					wantNoExcuse(t, f, verdict)
				} else {
					wantExcuse(t, f, verdict, api.Frame{Id: 256*fc + 7, Unit: 255 - fc, Pdu: string([]byte{byte(fc%128 + 128), byte(code)})})
				}
			}
			for _, verdict := range ends {
				if codes[verdict] == 0 {
					wantNoExcuse(t, f, verdict)
				}
			}
		}
	}
}

// P24.1: what the excuse tells is spelt out for some frames.
func TestExcuseOfSome(t *testing.T) {
	f := api.Frame{Id: 1, Unit: 17, Pdu: readTwo.pdu}
	wantExcuse(t, f, api.VerRate, api.Frame{Id: 1, Unit: 17, Pdu: "\x83\x06"})
	wantExcuse(t, f, api.VerFull, api.Frame{Id: 1, Unit: 17, Pdu: "\x83\x06"})
	wantExcuse(t, f, api.VerDeny, api.Frame{Id: 1, Unit: 17, Pdu: "\x83\x01"})
	wantExcuse(t, f, api.VerAddr, api.Frame{Id: 1, Unit: 17, Pdu: "\x83\x02"})
	wantExcuse(t, f, api.VerValue, api.Frame{Id: 1, Unit: 17, Pdu: "\x83\x03"})
	wantExcuse(t, api.Frame{Pdu: "\x07"}, api.VerFunc, api.Frame{Pdu: "\x87\x01"})
	wantExcuse(t, api.Frame{Pdu: "\x00"}, api.VerFunc, api.Frame{Pdu: "\x80\x01"})
	wantExcuse(t, api.Frame{Id: 65535, Unit: 255, Pdu: "\x83\x02"}, api.VerFunc, api.Frame{Id: 65535, Unit: 255, Pdu: "\x83\x01"})
	wantExcuse(t, api.Frame{Pdu: "\xff"}, api.VerFunc, api.Frame{Pdu: "\xff\x01"})
	wantNoExcuse(t, f, api.VerForward)
	wantNoExcuse(t, f, api.VerMatch)
	wantNoExcuse(t, f, 0)
}

// P24.1: the full levels: Burst times Per of each rule with a rate, 0 of the others.
func TestLevels(t *testing.T) {
	for text, want := range map[string][]int{
		"":                            nil,
		"allow;":                      {0},
		"deny; allow when unit 1;":    {0, 0},
		"allow rate 1 per 2 burst 3;": {6},
		"allow rate 9 per 1 burst 1;": {1},
		"deny; allow rate 7 per 5 burst 11; allow; allow when func 3 rate 1 per 1 burst 4;": {0, 55, 0, 4},
		"allow rate 1 per 1048576 burst 1048576; allow rate 1048576 per 1 burst 1;":         {1 << 40, 1},
	} {
		wantNumbers(t, text, Levels(policy(t, text).rules), want)
	}
	wantNumbers(t, "of no rules", Levels(nil), nil)
	wantNumbers(t, "of no rules", Levels([]api.Rule{}), nil)
}

// P24.1: a tick later each level with a rate is Num more, up to full; the others stay 0.
func TestTick(t *testing.T) {
	s := policy(t, "allow rate 2 per 5 burst 3; deny; allow rate 1 per 1 burst 4; allow;")
	for first := range 16 {
		for third := range 5 {
			got := Tick(s.rules, []int{first, 0, third, 0})
			wantNumbers(t, "a tick later", got, []int{min(first+2, 15), 0, min(third+1, 4), 0})
		}
	}
	wantNumbers(t, "of full levels", Tick(s.rules, Levels(s.rules)), []int{15, 0, 4, 0})
	great := policy(t, "allow rate 1048576 per 1 burst 1;")
	wantNumbers(t, "of a rate that is more than full", Tick(great.rules, []int{0}), []int{1})
	for _, none := range [][]api.Rule{nil, {}} {
		wantNumbers(t, "of no rules", Tick(none, nil), nil)
		wantNumbers(t, "of no rules", Tick(none, []int{}), nil)
	}
}

// P24.2: from full levels at most Burst uses and what n ticks bring go, one for each frame that is let pass.
func TestUsesInTime(t *testing.T) {
	for num := 1; num <= 4; num++ {
		for per := 1; per <= 5; per++ {
			for burst := 1; burst <= 3; burst++ {
				l := []api.Rule{{Allow: true, Rate: api.Rate{Num: num, Per: per, Burst: burst}}}
				s, passed := setup{l, compile.Rules(l)}, 0
				levels := Levels(l)
				for n := range 12 {
					for range burst + num + 2 {
						got := s.judge(levels, 1, api.Frame{Pdu: readTwo.pdu}, false)
						if levels = got.levels; got.verdict == api.VerForward {
							passed++
						} else if got.verdict != api.VerRate {
							t.Fatalf("of the rate %v: %+v", l[0].Rate, got)
						}
					}
					if passed*per > burst*per+n*num {
						t.Fatalf("of the rate %v: %d uses in %d ticks", l[0].Rate, passed, n)
					}
					levels = Tick(l, levels)
				}
			}
		}
	}
}

// texts are rules that a policy by chance is made of.
var texts = []string{
	"allow;", "deny;", "allow rate 1 per 2 burst 2;", "deny when func 6;", "allow when func 3-4 rate 2 per 3 burst 1;",
	"allow when unit 1 and client 2;", "deny when not addr 0-99;", "allow when value 0-1 rate 1 per 1 burst 3;",
	"deny when client 1 or unit 2;", "allow when real -5 to 5 rate 3 per 2 burst 2;", "deny when not (func 1-5 or func 16);",
}

// naive tells by the words what is let pass, and of which rule: by layer 15's first rule, not by a tree; levels change.
func naive(s setup, levels []int, client, unit int, one sample, full bool) (verdict, rule int) {
	rule = mean.First(s.rules, facts.Of(client, unit, one.ask))
	if rule < 0 || !s.rules[rule].Allow {
		return api.VerDeny, rule
	}
	if full {
		return api.VerFull, rule
	}
	per := s.rules[rule].Rate.Per
	if per > levels[rule] {
		return api.VerRate, rule
	}
	levels[rule] -= per
	return api.VerForward, rule
}

// later tells the levels a tick later, by steps of one.
func later(s setup, levels []int) {
	for k, r := range s.rules {
		for range r.Rate.Num {
			if levels[k] < r.Rate.Burst*r.Rate.Per {
				levels[k]++
			}
		}
	}
}

// P24.2: policies, frames and ticks by chance, held against the words; all that can become of a request comes.
func TestByChance(t *testing.T) {
	chance, seen := rand.New(rand.NewSource(242)), map[int]int{}
	for range 400 {
		text := ""
		for range chance.Intn(5) {
			text += texts[chance.Intn(len(texts))]
		}
		s := policy(t, text)
		levels, want := Levels(s.rules), []int{}
		for _, r := range s.rules {
			want = append(want, r.Rate.Burst*r.Rate.Per)
		}
		for range 40 {
			one, client, unit, full := samples()[chance.Intn(11)], chance.Intn(3), chance.Intn(3), chance.Intn(4) == 0
			before := slices.Clone(levels)
			verdict, rule := naive(s, want, client, unit, one, full)
			f := api.Frame{Id: chance.Intn(65536), Unit: unit, Pdu: one.pdu}
			s.want(t, before, client, f, full, judged{one.ask, verdict, rule, want})
			levels = s.judge(levels, client, f, full).levels
			if seen[verdict]++; chance.Intn(3) == 0 {
				levels = Tick(s.rules, levels)
				later(s, want)
				wantNumbers(t, "a tick later", levels, want)
			}
		}
	}
	for _, verdict := range []int{api.VerForward, api.VerDeny, api.VerRate, api.VerFull} {
		if seen[verdict] < 500 {
			t.Fatalf("only %v are let pass, denied, too many, without room", seen)
		}
	}
}

// P24.2: PDUs by chance: what is let pass under allow is a request, and its excuse is told of all else.
func TestBytesByChance(t *testing.T) {
	chance, s, passed := rand.New(rand.NewSource(243)), policy(t, "allow;"), 0
	for range 100000 {
		b := []byte(samples()[chance.Intn(11)].pdu)
		for range chance.Intn(3) {
			b[chance.Intn(len(b))] = byte(chance.Intn(256))
		}
		f := api.Frame{Id: 7, Unit: 1, Pdu: string(b[:max(1, len(b)-chance.Intn(2))])}
		got := s.judge([]int{0}, 1, f, false)
		excuse, is := Excuse(f, got.verdict)
		if (got.verdict == api.VerForward) == is || (got.rule == 0) == is || (got.ask.Func == 0) != is {
			t.Fatalf("of %q: %+v, %+v, %v", f.Pdu, got, excuse, is)
		}
		if !is {
			passed++
		}
	}
	if passed < 10000 || passed > 90000 {
		t.Fatalf("%d of the frames are let pass", passed)
	}
}

// everything answers copies of rules, nodes and levels, with the room behind them.
func everything(l []api.Rule, n []api.Node, levels []int) ([]api.Rule, []api.Node, []int) {
	return slices.Clone(l[:cap(l)]), slices.Clone(n[:cap(n)]), slices.Clone(levels[:cap(levels)])
}

// Rule 5: what is handed in stays, its spare room too.
func TestWhatIsHandedInStays(t *testing.T) {
	s := policy(t, "allow when unit 1 rate 1 per 2 burst 3; allow rate 2 per 3 burst 4; deny; deny;")
	l, n, levels := s.rules[:2], append(slices.Clone(s.nodes), api.Node{Rule: 97})[:len(s.nodes)], []int{6, 12, 97, 98, 99}[:2]
	rules, nodes, numbers := everything(l, n, levels)
	for _, unit := range []int{1, 2} {
		for _, one := range samples() {
			for _, full := range []bool{false, true} {
				Frame(l, n, levels, 1, api.Frame{Unit: unit, Pdu: one.pdu}, full)
				Frame(l, n, levels, 1, api.Frame{Unit: unit, Pdu: one.pdu + "\x00"}, full)
			}
		}
	}
	Levels(l)
	Tick(l, levels[:2])
	low := []int{0, 0, 97}[:2]
	Tick(l, low)
	r, d, m := everything(l, n, levels)
	if !reflect.DeepEqual(r, rules) || !reflect.DeepEqual(d, nodes) || !slices.Equal(m, numbers) || !slices.Equal(low[:3], []int{0, 0, 97}) {
		t.Fatalf("behind the calls: %+v, %+v, %v, %v", r, d, m, low[:3])
	}
}

// An answer is new memory, where nothing changes too: whatever is done to it, what was handed in and all other answers stay.
func TestAnswersShareNothing(t *testing.T) {
	s := policy(t, "allow when unit 1 rate 1 per 2 burst 3; allow when unit 2; deny when unit 3;")
	handed := []int{6, 0, 0}
	spoil := func(l []int) {
		for k := range l[:cap(l)] {
			l[:cap(l)][k] = -12345
		}
	}
	for unit := range 5 {
		for _, pdu := range []string{writeReal.pdu, "\x07", writeReal.pdu + "\x00"} {
			for _, full := range []bool{false, true} {
				f := api.Frame{Unit: unit, Pdu: pdu}
				first, second := s.judge(handed, 1, f, full), s.judge(handed, 1, f, full)
				spoil(first.levels)
				spoil(first.ask.Values)
				s.want(t, handed, 1, f, full, second)
				wantNumbers(t, "what was handed in", handed, []int{6, 0, 0})
			}
		}
	}
	spoil(Tick(s.rules, handed))
	spoil(Levels(s.rules))
	wantNumbers(t, "what was handed in", handed, []int{6, 0, 0})
	wantNumbers(t, "other answers", Levels(s.rules), []int{6, 0, 0})
}

// Rules 5 and 6: nothing is kept: a call hangs on its arguments alone, other calls between don't count, nor a change of what was handed in.
func TestNothingIsKept(t *testing.T) {
	s, f := policy(t, "allow rate 1 per 2 burst 1;"), api.Frame{Pdu: readTwo.pdu}
	other := policy(t, "deny;")
	levels := []int{2}
	for range 5 {
		s.want(t, levels, 1, f, false, judged{readTwo.ask, api.VerForward, 0, []int{0}})
		s.want(t, levels, 1, f, false, judged{readTwo.ask, api.VerForward, 0, []int{0}})
		other.want(t, []int{0}, 1, f, false, judged{readTwo.ask, api.VerDeny, 0, []int{0}})
		got := s.judge(levels, 1, f, false)
		levels[0] = 1
		wantNumbers(t, "an answer, behind a change of what was handed in", got.levels, []int{0})
		s.want(t, levels, 1, f, false, judged{readTwo.ask, api.VerRate, 0, []int{1}})
		levels[0] = 2
	}
}

// Rule 1: of others nothing is promised but that each call ends, without a panic.
func TestArgumentsThatMayNotBe(t *testing.T) {
	s := policy(t, "allow when unit 1 rate 1 per 2 burst 3; allow when unit 2; allow rate 1 per 1 burst 1;")
	trees := [][]api.Node{nil, {}, s.nodes, s.nodes[:1], {{}}, {{Leaf: true, Rule: 64}}, {{Leaf: true, Rule: -2}}, {{Leaf: true, Rule: math.MaxInt}}, {{Leaf: true, Rule: math.MinInt}}, {{Yes: 5, No: -5}}}
	for _, l := range [][]api.Rule{nil, s.rules[:1], s.rules, {{Rate: api.Rate{Per: -1}}, {Allow: true, Rate: api.Rate{Num: math.MaxInt, Per: math.MinInt, Burst: -1}}}} {
		for _, levels := range [][]int{nil, {0}, {1, 2, 3, 4}, {-1, math.MinInt, math.MaxInt}} {
			for _, n := range trees {
				for unit := range 4 {
					for _, pdu := range []string{"", "\x03", readTwo.pdu, strings.Repeat("\x03", 70000)} {
						Frame(l, n, levels, 1, api.Frame{Id: -1, Unit: unit, Pdu: pdu}, unit == 3)
					}
				}
			}
			Tick(l, levels)
		}
		Levels(l)
	}
	for _, verdict := range verdicts {
		wantNoExcuse(t, api.Frame{Id: 1, Unit: 1}, verdict)
		Excuse(api.Frame{Id: math.MinInt, Unit: math.MaxInt, Pdu: strings.Repeat("x", 70000)}, verdict)
	}
}
