package parse

import (
	"fmt"
	"math"
	"math/rand"
	"slices"
	"strconv"
	"strings"
	"testing"

	"gatewarden/api"
	"gatewarden/lex"
	"gatewarden/tree"
)

const most = 1 << 53

var (
	minusNought = math.Copysign(0, -1)
	infinite    = math.Inf(1)
)

// ranged makes an atom of a field and ranges whose ends stand by twos.
func ranged(field int, ends ...int) api.Expr {
	e := api.Expr{Kind: 1, Field: field}
	for i := 0; i+1 < len(ends); i += 2 {
		e.Ranges = append(e.Ranges, api.Range{Low: ends[i], High: ends[i+1]})
	}
	return e
}

func fn(n int) api.Expr { return ranged(3, n, n) }

func floats(low, high float64) api.Expr {
	return api.Expr{Kind: 1, Field: 6, Low: low, High: high}
}

func made(kind int, l ...api.Expr) api.Expr { return api.Expr{Kind: kind, Of: l} }

func notOf(e api.Expr) api.Expr    { return made(2, e) }
func andOf(l ...api.Expr) api.Expr { return made(3, l...) }
func orOf(l ...api.Expr) api.Expr  { return made(4, l...) }

// tokens makes tokens of words that stand between blanks, each in a line of its own: the first in line 1.
func tokens(words string) []api.Token {
	var l []api.Token
	for i, s := range strings.Fields(words) {
		l = append(l, token(s, i+1))
	}
	return l
}

func token(s string, line int) api.Token {
	t := api.Token{Kind: api.TokWord, Text: s, Line: line}
	switch {
	case strings.Contains("(),;", s):
		t.Kind = api.TokMark
	case s == "-":
		t.Kind = api.TokMinus
	case s[0] <= '9':
		t.Kind = api.TokNum
		t.Num, _ = strconv.Atoi(s)
	}
	return t
}

// lined gives each token a line of its own, again.
func lined(l []api.Token) []api.Token {
	l = slices.Clone(l)
	for i := range l {
		l[i].Line = i + 1
	}
	return l
}

func shown(l []api.Token) string {
	var b strings.Builder
	for _, t := range l {
		b.WriteString(t.Text + " ")
	}
	return brief(b.String())
}

// told shows rules.
func told(l []api.Rule) string { return brief(fmt.Sprintf("%+v", l)) }

// brief cuts the middle out of what is too long to be read.
func brief(s string) string {
	if len(s) > 1500 {
		return s[:700] + " .. " + s[len(s)-700:]
	}
	return s
}

// sameLines answers whether both lists are the same, lines and all.
func sameLines(a, b []api.Rule) bool {
	return tree.Rules(a, b) && slices.EqualFunc(a, b, func(a, b api.Rule) bool { return a.Line == b.Line })
}

func wantTokens(t *testing.T, l []api.Token, want []api.Rule) {
	t.Helper()
	got, line, e := Tokens(l)
	if e != api.OK || line != 0 || !sameLines(got, want) {
		t.Fatalf("Tokens(%s) = %s, %d, %d; want %s, 0, 0", shown(l), told(got), line, e, told(want))
	}
}

func wantFault(t *testing.T, l []api.Token, line int, e api.Errno) {
	t.Helper()
	got, gotLine, gotE := Tokens(l)
	if len(got) != 0 || gotLine != line || gotE != e {
		t.Fatalf("Tokens(%s) = %s, %d, %d; want none, %d, %d", shown(l), told(got), gotLine, gotE, line, e)
	}
}

func wantText(t *testing.T, s string, want []api.Rule) {
	t.Helper()
	got, line, e := Text(s)
	if e != api.OK || line != 0 || !sameLines(got, want) {
		t.Fatalf("Text(%q) = %s, %d, %d; want %s, 0, 0", brief(s), told(got), line, e, told(want))
	}
}

func wantTextFault(t *testing.T, s string, line int, e api.Errno) {
	t.Helper()
	got, gotLine, gotE := Text(s)
	if len(got) != 0 || gotLine != line || gotE != e {
		t.Fatalf("Text(%q) = %s, %d, %d; want none, %d, %d", brief(s), told(got), gotLine, gotE, line, e)
	}
}

// wantWhen asks for an expression, in rules of both words, with a rate behind it and without one, as text and as tokens.
func wantWhen(t *testing.T, s string, want api.Expr) {
	t.Helper()
	wantText(t, "allow when "+s+";", []api.Rule{{Allow: true, When: want, Line: 1}})
	wantText(t, "deny\nwhen\n"+s+"\n;", []api.Rule{{When: want, Line: 1}})
	wantText(t, "\n\nallow when "+s+" rate 1 per 2 burst 3;", []api.Rule{{Allow: true, When: want, Rate: api.Rate{Num: 1, Per: 2, Burst: 3}, Line: 3}})
	l, _, e := lex.Split("deny when " + s + "\nrate 3 per 2 burst 1;")
	if e != api.OK {
		t.Fatalf("%q isn't made of tokens", s)
	}
	wantTokens(t, l, []api.Rule{{When: want, Rate: api.Rate{Num: 3, Per: 2, Burst: 1}, Line: 1}})
}

// P12.1: no text, and what is none but blanks and remarks, is a policy of no rules.
func TestNoRules(t *testing.T) {
	wantTokens(t, nil, nil)
	wantTokens(t, []api.Token{}, nil)
	for _, s := range []string{"", " ", "\n\n", "# allow;", "\t\r\n# deny;\n# (\n"} {
		wantText(t, s, nil)
	}
}

// P12.1: rules without an expression, with and without a rate, one and more, each with the line of its first token.
func TestRules(t *testing.T) {
	wantText(t, "allow;", []api.Rule{{Allow: true, Line: 1}})
	wantText(t, "deny;", []api.Rule{{Line: 1}})
	wantText(t, "\n\n\n deny\n\n;\n\nallow\n;", []api.Rule{{Line: 4}, {Allow: true, Line: 8}})
	wantText(t, "allow;deny;allow;\ndeny;", []api.Rule{{Allow: true, Line: 1}, {Line: 1}, {Allow: true, Line: 1}, {Line: 2}})
	wantText(t, "allow rate 5 per 7 burst 9;", []api.Rule{{Allow: true, Rate: api.Rate{Num: 5, Per: 7, Burst: 9}, Line: 1}})
	wantText(t, "deny\nrate 5 per 7 burst 9;", []api.Rule{{Rate: api.Rate{Num: 5, Per: 7, Burst: 9}, Line: 1}})
	wantText(t, "deny rate 0 per 1 burst 0;", []api.Rule{{Rate: api.Rate{Per: 1}, Line: 1}})
	wantText(t, "allow rate 9007199254740992 per 9007199254740992 burst 9007199254740992;", []api.Rule{{Allow: true, Rate: api.Rate{Num: most, Per: most, Burst: most}, Line: 1}})
	wantText(t, "allow when func 3 or func 4; deny;", []api.Rule{{Allow: true, When: orOf(fn(3), fn(4)), Line: 1}, {Line: 1}})
	wantText(t, "# first\ndeny when func 6; # second\nallow rate 1 per 2 burst 1;\n\ndeny when not unit 17 rate 1 per 2 burst 0;", []api.Rule{
		{When: fn(6), Line: 2},
		{Allow: true, Rate: api.Rate{Num: 1, Per: 2, Burst: 1}, Line: 3},
		{When: notOf(ranged(2, 17, 17)), Rate: api.Rate{Num: 1, Per: 2}, Line: 5},
	})
}

// P12.1: a rule's line is its first token's, whichever number that is; those of its other tokens don't count.
func TestLinesOfRules(t *testing.T) {
	l := tokens("allow ; deny when func 3 ;")
	for i, line := range []int{7, 9, 9, 10, 12, 12, 500} {
		l[i].Line = line
	}
	wantTokens(t, l, []api.Rule{{Allow: true, Line: 7}, {When: fn(3), Line: 9}})
}

// P12.1: atoms of each field with ranges: of one number and of two, one range and more, in the order of the text.
func TestRanges(t *testing.T) {
	for i, word := range []string{"client", "unit", "func", "addr", "value"} {
		f := i + 1
		wantWhen(t, word+" 0", ranged(f, 0, 0))
		wantWhen(t, word+" 7", ranged(f, 7, 7))
		wantWhen(t, word+" 0-1", ranged(f, 0, 1))
		wantWhen(t, word+" 5 - 5", ranged(f, 5, 5))
		wantWhen(t, word+"\n3\n-\n0", ranged(f, 3, 0))
		wantWhen(t, word+"0-9007199254740992", ranged(f, 0, most))
		wantWhen(t, word+" 9007199254740992", ranged(f, most, most))
		wantWhen(t, word+" 1,2", ranged(f, 1, 1, 2, 2))
		wantWhen(t, word+" 2 , 1", ranged(f, 2, 2, 1, 1))
		wantWhen(t, word+" 1-2,3,5-9,5-9,0-0", ranged(f, 1, 2, 3, 3, 5, 9, 5, 9, 0, 0))
	}
	want, s := ranged(4), "addr "
	for i := range 700 {
		want.Ranges = append(want.Ranges, api.Range{Low: i, High: i})
		s += strconv.Itoa(i) + ","
	}
	wantWhen(t, strings.TrimSuffix(s, ","), want)
}

// P12.1: bounds of floats: noughts with and without a sign, infinities, the greatest numbers, in any order.
func TestBounds(t *testing.T) {
	bounds := map[string]float64{
		"0": 0, "-0": minusNought, "- 0": minusNought, "1": 1, "-1": -1, "-\n5": -5, "65535": 65535, "9007199254740991": most - 1,
		"9007199254740992": most, "-9007199254740992": -most, "inf": infinite, "-inf": -infinite, "- inf": -infinite,
	}
	for low, x := range bounds {
		for high, y := range bounds {
			wantWhen(t, "real "+low+" to "+high, floats(x, y))
			wantWhen(t, "not real "+low+"\nto\n"+high, notOf(floats(x, y)))
		}
	}
}

// P12.1: ors of ands of parts; what is alone is joined with nothing; brackets make what is in them.
func TestExpressions(t *testing.T) {
	a, b, c, d := fn(3), ranged(2, 1, 4, 9, 9), floats(-5, infinite), ranged(1, 7, 7)
	sa, sb, sc, sd := "func 3", "unit 1-4,9", "real -5 to inf", "client 7"
	wantWhen(t, sa+" and "+sb, andOf(a, b))
	wantWhen(t, sa+" and "+sb+" and "+sc, andOf(a, b, c))
	wantWhen(t, sa+" or "+sb, orOf(a, b))
	wantWhen(t, sa+" or "+sb+" or "+sc, orOf(a, b, c))
	wantWhen(t, sa+" and "+sb+" or "+sc, orOf(andOf(a, b), c))
	wantWhen(t, sa+" or "+sb+" and "+sc, orOf(a, andOf(b, c)))
	wantWhen(t, sa+" and "+sb+" or "+sc+" and "+sd, orOf(andOf(a, b), andOf(c, d)))
	wantWhen(t, sa+" or "+sb+" and "+sc+" or "+sd, orOf(a, andOf(b, c), d))
	wantWhen(t, "not "+sa, notOf(a))
	wantWhen(t, "not not "+sa, notOf(notOf(a)))
	wantWhen(t, "not "+sa+" and "+sb, andOf(notOf(a), b))
	wantWhen(t, sa+" and not "+sb, andOf(a, notOf(b)))
	wantWhen(t, "not "+sa+" or "+sb, orOf(notOf(a), b))
	wantWhen(t, "not ("+sa+" and "+sb+")", notOf(andOf(a, b)))
	wantWhen(t, "not ("+sa+" or "+sb+") and "+sc, andOf(notOf(orOf(a, b)), c))
	wantWhen(t, "not (not "+sa+" or "+sb+")", notOf(orOf(notOf(a), b)))
	wantWhen(t, "("+sa+" or "+sb+") and "+sc, andOf(orOf(a, b), c))
	wantWhen(t, sc+" and ("+sa+" or "+sb+")", andOf(c, orOf(a, b)))
	wantWhen(t, "("+sa+" or "+sb+") and ("+sc+" or "+sd+")", andOf(orOf(a, b), orOf(c, d)))
	wantWhen(t, "("+sa+" and "+sb+") and "+sc, andOf(andOf(a, b), c))
	wantWhen(t, sc+" and ("+sa+" and "+sb+")", andOf(c, andOf(a, b)))
	wantWhen(t, "("+sa+" or "+sb+") or "+sc, orOf(orOf(a, b), c))
	wantWhen(t, sc+" or ("+sa+" or "+sb+")", orOf(c, orOf(a, b)))
	wantWhen(t, sc+" or ("+sa+" and "+sb+")", orOf(c, andOf(a, b)))
	wantWhen(t, "("+sa+" and "+sb+") or "+sc, orOf(andOf(a, b), c))
	wantWhen(t, sa+" and "+sa+" or "+sa, orOf(andOf(a, a), a))
	wantWhen(t, "func 0-9 , 20 and not ( func 3 or func 4 )", andOf(ranged(3, 0, 9, 20, 20), notOf(orOf(fn(3), fn(4)))))
}

// P12.1: brackets that need not be leave no trace.
func TestNeedlessBrackets(t *testing.T) {
	a, b, c := fn(3), fn(4), floats(0, 1)
	for _, s := range []string{"(func 3)", "((func 3))", "(((((func 3)))))"} {
		wantWhen(t, s, a)
		wantWhen(t, "not "+s, notOf(a))
		wantWhen(t, "(not "+s+")", notOf(a))
		wantWhen(t, s+" and func 4", andOf(a, b))
		wantWhen(t, "func 4 or "+s, orOf(b, a))
		wantWhen(t, "("+s+" and (func 4))", andOf(a, b))
		wantWhen(t, "("+s+" or (func 4) and real 0 to 1)", orOf(a, andOf(b, c)))
		wantWhen(t, "(("+s+" or func 4)) and (not (real 0 to 1))", andOf(orOf(a, b), notOf(c)))
	}
}

// vocabulary is all that a policy is made of, a word that it isn't, and numbers of each sort.
func vocabulary() []string {
	return strings.Fields("allow deny when rate per burst ; or and not ( ) client unit func addr value real inf to , - 0 1 9007199254740992 maybe")
}

// judge tells what is wrong with tokens by a stack of what must follow, the last one first.
type judge struct {
	want               []string
	rules, atoms, open int
}

// push puts what must follow on the stack, the first one on its top.
func (j *judge) push(l ...string) {
	slices.Reverse(l)
	j.want = append(j.want, l...)
}

// verdict answers the line and the error that Tokens must tell.
func verdict(l []api.Token) (int, api.Errno) {
	j := judge{want: []string{"POLICY"}}
	for _, t := range l {
		if e := j.step(t); e != api.OK {
			return t.Line, e
		}
	}
	for len(j.want) > 0 {
		switch j.pop() {
		case "POLICY", "CLOSE":
		default:
			return 0, api.ErrForm
		}
	}
	return 0, api.OK
}

func (j *judge) pop() string {
	top := j.want[len(j.want)-1]
	j.want = j.want[:len(j.want)-1]
	return top
}

// step goes over one token, perhaps by several symbols of the stack.
func (j *judge) step(t api.Token) api.Errno {
	for {
		top := j.pop()
		perhaps := map[string]string{"WHEN": "when", "RATE": "rate", "ANDS": "or", "PARTS": "and", "RANGES": ",", "HIGH": "-"}
		behind := map[string][]string{
			"WHEN": {"EXPRESSION"}, "RATE": {"NUMBER", "per", "POSITIVE", "burst", "NUMBER"}, "ANDS": {"AND", "ANDS"},
			"PARTS": {"PART", "PARTS"}, "RANGES": {"RANGE", "RANGES"}, "HIGH": {"NUMBER"},
		}
		switch top {
		case "POLICY":
			if t.Text != "allow" && t.Text != "deny" {
				return api.ErrForm
			}
			if j.rules++; j.rules > 64 {
				return api.ErrMany
			}
			j.push("WHEN", "RATE", ";", "POLICY")
			return api.OK
		case "WHEN", "RATE", "ANDS", "PARTS", "RANGES", "HIGH":
			if t.Text == perhaps[top] {
				j.push(behind[top]...)
				return api.OK
			}
		case "CLOSE":
			j.open--
		case "EXPRESSION":
			j.push("AND", "ANDS")
		case "AND":
			j.push("PART", "PARTS")
		case "RANGE":
			j.push("NUMBER", "HIGH")
		case "PART":
			return j.part(t)
		default:
			return j.single(top, t)
		}
	}
}

// part goes over the first token of a part.
func (j *judge) part(t api.Token) api.Errno {
	switch t.Text {
	case "not", "(":
		if j.open++; j.open > 16 {
			return api.ErrDeep
		}
		if t.Text == "not" {
			j.push("PART", "CLOSE")
		} else {
			j.push("EXPRESSION", ")", "CLOSE")
		}
		return api.OK
	case "client", "unit", "func", "addr", "value", "real":
		if j.atoms++; j.atoms > 512 {
			return api.ErrMany
		}
		if t.Text == "real" {
			j.push("BOUND", "to", "BOUND")
		} else {
			j.push("RANGE", "RANGES")
		}
		return api.OK
	}
	return api.ErrForm
}

// single goes over a token where just one sort may stand.
func (j *judge) single(top string, t api.Token) api.Errno {
	ok := t.Text == top
	switch top {
	case "NUMBER":
		ok = t.Kind == api.TokNum
	case "POSITIVE":
		ok = t.Kind == api.TokNum && t.Num != 0
	case "BOUND", "SIZE":
		ok = t.Kind == api.TokNum || t.Text == "inf"
		if t.Text == "-" && top == "BOUND" {
			j.push("SIZE")
			ok = true
		}
	}
	if !ok {
		return api.ErrForm
	}
	return api.OK
}

// wantVerdict asks for the line and the error that the judge tells, and answers the rules, and whether there is none.
func wantVerdict(t *testing.T, l []api.Token) ([]api.Rule, bool) {
	t.Helper()
	line, e := verdict(l)
	if e != api.OK {
		wantFault(t, l, line, e)
		return nil, false
	}
	got, gotLine, gotE := Tokens(l)
	if gotLine != 0 || gotE != api.OK {
		t.Fatalf("Tokens(%s) = .., %d, %d; want rules, 0, 0", shown(l), gotLine, gotE)
	}
	return got, true
}

// samples are policies in which all words and signs stand, at all places of a rule where they may.
func samples() []string {
	return []string{
		"allow ; deny ;",
		"allow rate 5 per 7 burst 9 ; deny rate 0 per 1 burst 0 ;",
		"deny when func 3 ; allow when addr 0 - 9 , 20 rate 1 per 2 burst 3 ; deny ;",
		"allow when client 1 or unit 2 - 3 and value 4 , 5 - 6 , 7 ;",
		"deny when not func 3 and ( addr 1 or not not unit 2 ) or real - 5 to inf ;",
		"deny when ( ( func 1 and real 0 to - 0 ) ) and real - inf to 9 rate 1 per 1 burst 0 ; allow ;",
		"allow when not ( func 1 or func 2 and not ( client 3 ) ) or value 0 ;",
	}
}

// P12.1: each word, sign and number missing, doubled, or another one in its place or ahead of it, at each place of a rule, with its line.
func TestEachTokenAtEachPlace(t *testing.T) {
	for _, s := range samples() {
		l := tokens(s)
		if _, ok := wantVerdict(t, l); !ok {
			t.Fatalf("%s is no policy", s)
		}
		for i := range l {
			wantVerdict(t, lined(slices.Delete(slices.Clone(l), i, i+1)))
			wantVerdict(t, lined(slices.Insert(slices.Clone(l), i, l[i])))
			wantVerdict(t, lined(slices.Insert(slices.Clone(l), i, l[i], l[i])))
			for _, word := range vocabulary() {
				other := token(word, i+1)
				wantVerdict(t, lined(slices.Replace(slices.Clone(l), i, i+1, other)))
				wantVerdict(t, lined(slices.Insert(slices.Clone(l), i, other)))
				wantVerdict(t, append(slices.Clone(l[:i]), other))
			}
		}
	}
}

// P12.1: all texts of up to three tokens, and all that begin a rule in one of many ways, and go on by up to three.
func TestAllShortOnes(t *testing.T) {
	var all [][]api.Token
	all = append(all, nil)
	for first := 0; len(all[first]) < 3; first++ {
		for _, word := range vocabulary() {
			all = append(all, append(slices.Clone(all[first]), token(word, len(all[first])+1)))
		}
	}
	for _, begin := range []string{"", "allow", "deny when", "allow when func", "deny when addr 1 -", "allow when ( unit 2", "deny when not real", "allow rate 1 per", "deny when real 1 to", "allow when func 1 ,"} {
		for _, behind := range all {
			wantVerdict(t, lined(append(tokens(begin), behind...)))
		}
	}
}

// P12.1: what can't stand at a place, told by hand, with its line.
func TestErrFormByHand(t *testing.T) {
	for s, line := range map[string]int{
		"maybe ;": 1, "when func 3 ;": 1, "; allow ;": 1, "( allow ) ;": 1, "3 ;": 1, "allow allow ;": 2, "allow ; ;": 3, "allow ; maybe ;": 3,
		"allow deny ;": 2, "allow func 3 ;": 2, "allow when ;": 3, "allow when when func 3 ;": 3, "allow when rate 1 per 1 burst 1 ;": 3,
		"allow when allow ;": 3, "allow when 3 ;": 3, "allow when func ;": 4, "allow when func func 3 ;": 4, "allow when func inf ;": 4,
		"allow when func - 3 ;": 4, "allow when func , 3 ;": 4, "allow when func 3 , ;": 6, "allow when func 3 , , 4 ;": 6, "allow when func 3 - ;": 6,
		"allow when func 3 - - 4 ;": 6, "allow when func 3 - inf ;": 6, "allow when func 3 - 4 - 5 ;": 7, "allow when func 3 4 ;": 5, "allow when func 3 func 4 ;": 5,
		"allow when func 3 to 4 ;": 5, "allow when func 3 and ;": 6, "allow when func 3 or ;": 6, "allow when func 3 and or func 4 ;": 6, "allow when and func 3 ;": 3,
		"allow when or func 3 ;": 3, "allow when not ;": 4, "allow when not and func 3 ;": 4, "allow when func 3 not func 4 ;": 5, "allow when ( ) ;": 4,
		"allow when ( func 3 ;": 6, "allow when func 3 ) ;": 5, "allow when ( func 3 ) ) ;": 7, "allow when ( func 3 rate 1 per 1 burst 1 ) ;": 6, "allow when ( func 3 ( ;": 6,
		"allow when func ( 3 ) ;": 4, "allow when real ;": 4, "allow when real 3 ;": 5, "allow when real 3 4 ;": 5, "allow when real to 3 ;": 4,
		"allow when real 3 to ;": 6, "allow when real 3 to to 4 ;": 6, "allow when real 3 - 4 ;": 5, "allow when real 3 , 4 ;": 5, "allow when real 3 to 4 , 5 to 6 ;": 7,
		"allow when real - to 3 ;": 5, "allow when real - - 3 to 4 ;": 5, "allow when real 3 to - ;": 7, "allow when real 3 to - - 4 ;": 7, "allow when real maybe to 4 ;": 4,
		"allow when real - maybe to 4 ;": 5, "allow when real 1 to real ;": 6, "allow when real ( 1 ) to 2 ;": 4, "allow when real 1 to 2 to 3 ;": 7,
		"allow rate ;": 3, "allow rate per 1 burst 1 ;": 3, "allow rate 1 ;": 4, "allow rate 1 burst 1 ;": 4, "allow rate 1 per ;": 5,
		"allow rate 1 per burst 1 ;": 5, "allow rate 1 per 1 ;": 6, "allow rate 1 per 1 burst ;": 7, "allow rate 1 per 1 burst 1 1 ;": 8, "allow rate 1 1 per 1 burst 1 ;": 4,
		"allow rate 1 per 0 burst 1 ;": 5, "allow rate 0 per 0 burst 0 ;": 5, "allow rate - 1 per 1 burst 1 ;": 3, "allow rate 1 per - 1 burst 1 ;": 5, "allow rate inf per 1 burst 1 ;": 3,
		"allow rate 1 per inf burst 1 ;": 5, "allow rate 1 per 1 burst inf ;": 7, "allow rate 1 per 1 burst 1 rate 1 per 1 burst 1 ;": 8, "allow rate 1 per 1 burst 1 when func 3 ;": 8,
		"allow rate 1 per 1 burst 1 and func 3 ;": 8, "allow per 1 ;": 2, "allow burst 1 ;": 2, "allow , deny ;": 2, "allow when func 3 when func 4 ;": 5,
		"allow when maybe 3 ;": 3, "allow maybe when func 3 ;": 2, "allow when funcs 3 ;": 3, "allowed ;": 1, "denied ;": 1, "allow when func 3 an func 4 ;": 5,
	} {
		wantFault(t, tokens(s), line, api.ErrForm)
	}
}

// P12.1: each text that ends where something must follow is ErrForm of line 0.
func TestEndsTooEarly(t *testing.T) {
	for _, s := range samples() {
		l := tokens(s)
		for i := range l {
			if i == 0 || l[i-1].Text == ";" {
				wantVerdict(t, l[:i])
				continue
			}
			wantFault(t, l[:i], 0, api.ErrForm)
			// What stands behind the end, in room that is spare, isn't read.
			wantFault(t, l[:i:i], 0, api.ErrForm)
		}
	}
	for _, s := range []string{"allow", "deny\n", "allow when", "allow when func 3 # ;", "deny when real -", "deny when real 1 to -", "deny when (func 3)", "allow rate 1 per 2 burst 3"} {
		wantTextFault(t, s, 0, api.ErrForm)
	}
}

// P12.1: layer 10's errors, told ahead of those of tokens that stand before and behind.
func TestErrorsOfTokens(t *testing.T) {
	long := strings.Repeat("#", api.MaxText)
	wantText(t, long, nil)
	wantText(t, "deny;"+strings.Repeat(" ", api.MaxText-5), []api.Rule{{Line: 1}})
	wantTextFault(t, long+"#", 0, api.ErrMany)
	wantTextFault(t, "deny;"+strings.Repeat(" ", api.MaxText-4), 0, api.ErrMany)
	wantTextFault(t, "maybe;"+long, 0, api.ErrMany)
	wantTextFault(t, "A;"+long, 0, api.ErrMany)
	for s, line := range map[string]int{
		"allow A;": 1, "A": 1, "allow;\ndeny!;": 2, "allow;\n\n\x00": 3, "maybe;\nA;": 2, "A;\nmaybe;": 1, "allow when func 007;": 1, "allow\n\nwhen func 9007199254740993;": 3,
		"deny when real 0 to\n1.5;": 2, "deny;\nallow rate 1 per 00 burst 1;": 2, "allow\nA": 2, ";\n+": 2,
	} {
		wantTextFault(t, s, line, api.ErrWord)
	}
}

// repeated answers so many tokens' words, with one between.
func repeated(s, between string, n int) string {
	return strings.TrimSuffix(strings.Repeat(s+" "+between+" ", n), between+" ")
}

// P12.1: the 64th rule may be, the 65th is ErrMany where it begins, whatever comes behind.
func TestManyRules(t *testing.T) {
	for _, rule := range []string{"deny ;", "allow when func 3 ;", "allow when not ( func 3 ) rate 1 per 2 burst 3 ;"} {
		size := len(strings.Fields(rule))
		for _, n := range []int{1, 2, 63, 64} {
			l, ok := wantVerdict(t, tokens(strings.Repeat(rule+" ", n)))
			if !ok || len(l) != n || l[n-1].Line != size*(n-1)+1 {
				t.Fatalf("%d rules %q are read as %d", n, rule, len(l))
			}
		}
		full := strings.Repeat(rule+" ", 64)
		at := 64*size + 1
		for _, behind := range []string{rule, "allow", "deny", "allow maybe", "deny ;", "allow ; maybe", "deny when func ( (", strings.Repeat(rule+" ", 9)} {
			wantFault(t, tokens(full+behind), at, api.ErrMany)
		}
		for _, behind := range []string{"maybe", ";", "when func 3 ;", "( deny ) ;", "func 3", "not", "3"} {
			wantFault(t, tokens(full+behind), at, api.ErrForm)
		}
		wantFault(t, tokens(strings.Repeat(rule+" ", 63)+"maybe ; deny ; deny ;"), 63*size+1, api.ErrForm)
		wantFault(t, tokens(strings.Repeat(rule+" ", 63)+"deny deny ;"), 63*size+2, api.ErrForm)
		wantFault(t, tokens(full[:len(full)-2]+"deny ;"), at-1, api.ErrForm)
	}
	wantTextFault(t, strings.Repeat("deny;\n", 64)+"\nallow", 66, api.ErrMany)
	wantTextFault(t, strings.Repeat("deny;\n", 600), 65, api.ErrMany)
	wantTextFault(t, strings.Repeat("deny;", 64)+"\nA", 2, api.ErrWord)
}

// P12.1: the 512th atom may be, in one rule and in many, the 513th is ErrMany at its first word, whatever comes behind.
func TestManyAtoms(t *testing.T) {
	for _, atom := range []string{"func 3", "client 1 - 2", "unit 1 , 2 , 3", "value 0", "addr 9 , 8", "real 0 to - 1", "not func 1", "( real - inf to inf )", "( func 3 )"} {
		size := len(strings.Fields(atom)) + 1
		first := 0 // how many tokens stand ahead of its word
		if strings.HasPrefix(atom, "not") || strings.HasPrefix(atom, "(") {
			first = 1
		}
		for _, word := range []string{"and", "or"} {
			l, ok := wantVerdict(t, tokens("deny when "+repeated(atom, word, 512)+" ; allow ;"))
			if !ok || len(l) != 2 || len(l[0].When.Of) != 512 || tree.Atoms(l[0].When) != 512 {
				t.Fatalf("512 times %q with %q between aren't read", atom, word)
			}
			at := 3 + 512*size + first
			wantFault(t, tokens("deny when "+repeated(atom, word, 513)+" ;"), at, api.ErrMany)
			wantFault(t, tokens("deny when "+repeated(atom, word, 600)), at, api.ErrMany)
			full := "deny when " + strings.Repeat(atom+" "+word+" ", 512)
			for _, last := range []string{"client", "unit maybe", "func", "addr 1", "value ;", "real", "real real"} {
				wantFault(t, tokens(full+last), 3+512*size, api.ErrMany)
			}
			for _, last := range []string{"maybe", "and func 3", "or func 3", ";", "3", ")", "rate 1 per 1 burst 1 ;", "inf"} {
				wantFault(t, tokens(full+last), 3+512*size, api.ErrForm)
			}
			wantFault(t, tokens(full), 0, api.ErrForm)
			wantFault(t, tokens(full+"not ( maybe"), 3+512*size+2, api.ErrForm)
			wantFault(t, tokens(full+"not ( ( addr"), 3+512*size+3, api.ErrMany)
		}
	}
}

// P12.1: atoms are counted over all rules of the policy.
func TestManyAtomsInManyRules(t *testing.T) {
	rule := "allow when " + repeated("func 3", "and", 8) + "; "
	l, ok := wantVerdict(t, tokens(strings.ReplaceAll(strings.Repeat(rule, 64), ";", " ;")))
	if !ok || len(l) != 64 {
		t.Fatalf("64 rules of 8 atoms are read as %d", len(l))
	}
	rule = "deny when " + repeated("unit 3", "or", 9) + " ; "
	n := len(strings.Fields(rule))
	wantFault(t, tokens(strings.Repeat(rule, 64)), 56*n+3+8*3, api.ErrMany)
	one := "deny when " + repeated("real 1 to 2", "or", 512) + " ; "
	n = len(strings.Fields(one))
	wantTokens(t, tokens("deny ; " + one + "allow ;")[:2], []api.Rule{{Line: 1}})
	wantFault(t, tokens(one+"allow ; deny when not func 3 ; maybe"), n+2+4, api.ErrMany)
	wantFault(t, tokens(one+"allow ; deny when maybe func 3 ;"), n+2+3, api.ErrForm)
	wantFault(t, tokens(one+"func 3"), n+1, api.ErrForm)
}

// P12.1: the 16th not or bracket may be open, the 17th is ErrDeep, mixed in all ways, with its line.
func TestDeep(t *testing.T) {
	for pattern := range 1 << 16 {
		if pattern%97 > 1 && pattern != 1<<16-1 {
			continue
		}
		opened, closed := "", ""
		want := fn(3)
		for i := range 16 {
			if pattern>>i&1 == 1 {
				opened, closed = "( "+opened, closed+") "
			} else {
				opened, want = "not "+opened, notOf(want)
			}
		}
		wantTokens(t, tokens("deny when "+opened+"func 3 "+closed+";"), []api.Rule{{When: want, Line: 1}})
		for _, last := range []string{"not", "(", "not func 3 " + closed + ";", "( func 3 ) " + closed + ";", "( )", "not not maybe"} {
			wantFault(t, tokens("deny when "+opened+last), 19, api.ErrDeep)
		}
		for _, last := range []string{"maybe", ")", ";", "and", "3"} {
			wantFault(t, tokens("deny when "+opened+last), 19, api.ErrForm)
		}
		wantFault(t, tokens("deny when "+opened), 0, api.ErrForm)
		wantFault(t, tokens("deny when "+opened+"func 3 not"), 21, api.ErrForm)
		wantFault(t, tokens("deny when "+opened+"func ("), 20, api.ErrForm)
	}
	wantTextFault(t, "deny when\n"+strings.Repeat("not ", 16)+"\nnot func 3;", 3, api.ErrDeep)
	wantTextFault(t, "deny when\n"+strings.Repeat("(", 16)+"\n(func 3;", 3, api.ErrDeep)
	wantTextFault(t, "deny when\n"+strings.Repeat("(", 4000), 2, api.ErrDeep)
}

// P12.1: what is closed again isn't open any more: a not behind its part, a bracket behind the other one.
func TestDeepAndClosedAgain(t *testing.T) {
	nots, opened, closed := strings.Repeat("not ", 16), strings.Repeat("( ", 16), strings.Repeat(") ", 16)
	part := nots + "func 3 "
	brackets := opened + "func 3 " + closed
	mixed := strings.Repeat("not ( ", 8) + "func 3 " + strings.Repeat(") ", 8)
	for _, word := range []string{"and ", "or "} {
		for _, first := range []string{part, brackets, mixed} {
			for _, second := range []string{part, brackets, mixed} {
				good := "allow when " + first + word + second + word + first
				if _, ok := wantVerdict(t, tokens(good+"; deny when "+second+";")); !ok {
					t.Fatalf("%q is refused", good)
				}
				at := len(strings.Fields("allow when "+first+word)) + 17
				for _, deep := range []string{nots + "not ", opened + "( ", nots + "( ", opened + "not ", strings.Repeat("not ( ", 8) + "( "} {
					wantFault(t, tokens("allow when "+first+word+deep), at, api.ErrDeep)
				}
			}
			// One bracket around all: fifteen may be open within.
			inner := strings.Replace(first, strings.Fields(first)[0]+" ", "", 1)
			if strings.Contains(first, ")") {
				inner = strings.TrimSuffix(inner, ") ")
			}
			if first != mixed {
				if _, ok := wantVerdict(t, tokens("deny when ( "+inner+word+inner+") "+word+first+";")); !ok {
					t.Fatalf("%q is refused within brackets", inner)
				}
			}
			wantFault(t, tokens("deny when ( func 1 "+word+first), len(strings.Fields("deny when ( func 1 "+word))+16, api.ErrDeep)
			wantFault(t, tokens("deny when not ( func 1 "+word+first), len(strings.Fields("deny when not ( func 1 "+word))+15, api.ErrDeep)
		}
	}
	// A not isn't open any more behind its part, though a bracket around it is.
	good := strings.Repeat("( ", 15) + "not func 1 and not func 2 or not func 3 and ( func 4 ) " + strings.Repeat(") ", 15)
	if _, ok := wantVerdict(t, tokens("deny when "+good+";")); !ok {
		t.Fatalf("%q is refused", good)
	}
	wantFault(t, tokens("deny when "+strings.Repeat("( ", 15)+"not func 1 and not ("), 2+15+3+1+2, api.ErrDeep)
}

// Rule 2: of two things that are wrong the one that comes first is told.
func TestFirstOfTwo(t *testing.T) {
	deep, deny64 := strings.Repeat("not ", 17)+"func 3 ", strings.Repeat("deny ; ", 64)
	atoms := repeated("func 3", "or", 513)
	wantFault(t, tokens("maybe ; deny when "+deep+";"), 1, api.ErrForm)
	wantFault(t, tokens("deny when "+deep+"; maybe ;"), 2+17, api.ErrDeep)
	wantFault(t, tokens("deny when "+deep+"or "+atoms), 2+17, api.ErrDeep)
	wantFault(t, tokens("deny when "+atoms+" or "+deep), 2+512*3+1, api.ErrMany)
	wantFault(t, tokens("deny rate 1 per 0 burst ; "+deny64), 5, api.ErrForm)
	wantFault(t, tokens(deny64+"deny when "+deep+";"), 129, api.ErrMany)
	wantFault(t, tokens("deny when func ; deny when real ;"), 4, api.ErrForm)
	wantFault(t, tokens(strings.Repeat("deny ; ", 63)+"deny when "+deep+"; deny ;"), 63*2+2+17, api.ErrDeep)
	full := "deny when " + strings.Repeat("func 3 or ", 512)
	at := 2 + 512*3
	wantFault(t, tokens(full+strings.Repeat("( ", 16)+"func 3"), at+17, api.ErrMany)
	wantFault(t, tokens(full+strings.Repeat("( ", 17)+"func 3"), at+17, api.ErrDeep)
	wantFault(t, tokens(full+strings.Repeat("( ", 16)+"maybe"), at+17, api.ErrForm)
}

// shaper makes random expressions, and ways in which they may be written.
type shaper struct {
	*rand.Rand
	atoms int
}

// expr makes an expression with at most so many nots and brackets open in its text, and counts its atoms.
func (s *shaper) expr(deep int) api.Expr {
	kind := 1
	if deep > 0 {
		kind = 1 + s.Intn(4)
	}
	switch kind {
	case 2:
		// The part of a not may need brackets of its own.
		if deep > 1 {
			return notOf(s.expr(deep - 2))
		}
		return notOf(s.atom())
	case 3, 4:
		e := api.Expr{Kind: kind}
		for range 2 + s.Intn(3) {
			e.Of = append(e.Of, s.expr(deep-1))
		}
		return e
	}
	return s.atom()
}

func (s *shaper) number() int {
	return []int{0, 1, 2, 3, 255, 65535, most - 1, most, s.Intn(most)}[s.Intn(9)]
}

func (s *shaper) atom() api.Expr {
	s.atoms++
	if s.Intn(3) == 0 {
		bounds := []float64{0, minusNought, 1, -1, infinite, -infinite, most, -most, float64(s.Intn(most)), -float64(s.Intn(most))}
		return floats(bounds[s.Intn(10)], bounds[s.Intn(10)])
	}
	e := api.Expr{Kind: 1, Field: 1 + s.Intn(5)}
	for range 1 + s.Intn(4)*s.Intn(2) {
		n := s.number()
		e.Ranges = append(e.Ranges, api.Range{Low: n, High: n})
		if s.Intn(2) == 0 {
			e.Ranges[len(e.Ranges)-1].High = s.number()
		}
	}
	return e
}

// policy makes rules whose text is no longer, and that have no more atoms, than may be; each in a line of its own.
func (s *shaper) policy() ([]api.Rule, string) {
	for {
		s.atoms = 0
		var l []api.Rule
		for range s.Intn(1 + s.Intn(12)) {
			r := api.Rule{Allow: s.Intn(2) == 0, Line: len(l) + 1}
			if s.Intn(4) > 0 {
				r.When = s.expr(s.Intn(6))
			}
			if s.Intn(3) == 0 {
				r.Rate = api.Rate{Num: s.number(), Per: max(1, s.number()), Burst: s.number()}
			}
			l = append(l, r)
		}
		text, ok := tree.Text(l)
		if ok && len(text) <= api.MaxText && s.atoms <= api.MaxAtoms {
			return l, text
		}
	}
}

// P12.2: what layer 11 writes is read as it was, its rules by lines.
func TestWrittenIsRead(t *testing.T) {
	s := &shaper{Rand: rand.New(rand.NewSource(12))}
	for range 3000 {
		l, text := s.policy()
		wantText(t, text, l)
	}
}

// P12.2: policies at the ends of what may be: 64 rules, 512 atoms, 16 deep, 4096 bytes.
func TestWrittenIsReadAtTheEnds(t *testing.T) {
	var rules []api.Rule
	for i := range 64 {
		rules = append(rules, api.Rule{Allow: i%2 == 0, When: fn(i), Line: i + 1})
	}
	wantWritten(t, rules)
	wide := orOf()
	for range 512 {
		wide.Of = append(wide.Of, fn(3))
	}
	wantFault(t, tokensOf(t, []api.Rule{{When: orOf(wide, fn(4))}}), 1, api.ErrMany)
	wantTokens(t, tokensOf(t, []api.Rule{{When: wide}}), []api.Rule{{When: wide, Line: 1}})
	nots := fn(3)
	for range 16 {
		nots = notOf(nots)
	}
	wantWritten(t, []api.Rule{{When: nots, Line: 1}})
	wantWrittenFault(t, []api.Rule{{When: notOf(nots)}}, api.ErrDeep)
	ands := andOf(fn(1), fn(2))
	for range 16 {
		ands = andOf(ands, fn(3))
	}
	wantWritten(t, []api.Rule{{When: ands, Line: 1}})
	wantWrittenFault(t, []api.Rule{{When: andOf(ands, fn(3))}}, api.ErrDeep)
	wantWrittenFault(t, append(rules, api.Rule{}), api.ErrMany)
	long := ranged(5)
	for len(long.Ranges) < 2039 {
		long.Ranges = append(long.Ranges, api.Range{Low: 1, High: 1})
	}
	wantWritten(t, []api.Rule{{When: long, Line: 1}})
	long.Ranges[2038] = api.Range{Low: 10, High: 10}
	if text, _ := tree.Text([]api.Rule{{When: long}}); len(text) != api.MaxText {
		t.Fatalf("the text has %d bytes", len(text))
	}
	wantWritten(t, []api.Rule{{When: long, Line: 1}})
	long.Ranges[2037] = api.Range{Low: 10, High: 10}
	wantWrittenFault(t, []api.Rule{{When: long}}, api.ErrMany)
}

// tokensOf answers the tokens of a policy's text, also of one that is too long, as if all of it stood in one line.
func tokensOf(t *testing.T, l []api.Rule) []api.Token {
	t.Helper()
	text, ok := tree.Text(l)
	if !ok {
		t.Fatalf("%s has no text", told(l))
	}
	var all []api.Token
	for s := range strings.FieldsSeq(text) {
		part, _, e := lex.Split(s)
		if e != api.OK {
			t.Fatalf("%q isn't made of tokens", s)
		}
		all = append(all, part...)
	}
	return all
}

func wantWritten(t *testing.T, l []api.Rule) {
	t.Helper()
	text, ok := tree.Text(l)
	if !ok || len(text) > api.MaxText {
		t.Fatalf("%s has no text, or too long a one", told(l))
	}
	wantText(t, text, l)
}

func wantWrittenFault(t *testing.T, l []api.Rule, want api.Errno) {
	t.Helper()
	text, ok := tree.Text(l)
	if got, _, e := Text(text); !ok || e != want || len(got) != 0 {
		t.Fatalf("Text(%q) = %s, .., %d; want none, .., %d", brief(text), told(got), e, want)
	}
}

// surface writes tokens as a person might: with blanks, remarks and line feeds between, or nothing where none need be.
func (s *shaper) surface(l []api.Token) (string, []api.Token) {
	var b strings.Builder
	line := 1
	gaps := []string{" ", "\n", "\t", "\r\n", "  ", " # or (\n", "\n\n"}
	for i := range l {
		letters := func(t api.Token) bool { return t.Kind == api.TokWord }
		digits := func(t api.Token) bool { return t.Kind == api.TokNum }
		touch := i > 0 && (letters(l[i-1]) && letters(l[i]) || digits(l[i-1]) && digits(l[i]))
		if touch || s.Intn(2) == 0 {
			gap := gaps[s.Intn(len(gaps))]
			b.WriteString(gap)
			line += strings.Count(gap, "\n")
		}
		l[i].Line = line
		b.WriteString(l[i].Text)
	}
	return b.String(), l
}

// random makes tokens of a policy that may be, by the grammar, with brackets that need not be.
func (s *shaper) random(symbol string, deep int) string {
	either := func(a, b string) string {
		if s.Intn(2) == 0 {
			return a
		}
		return b
	}
	switch symbol {
	case "rule":
		out := either("allow ", "deny ")
		if s.Intn(5) > 0 {
			out += "when " + s.random("or", deep)
		}
		if s.Intn(3) == 0 {
			out += fmt.Sprintf("rate %d per %d burst %d ", s.number(), max(1, s.number()), s.number())
		}
		return out + "; "
	case "or", "and":
		within := map[string]string{"or": "and", "and": "part"}[symbol]
		out := s.random(within, deep)
		for s.Intn(3) == 0 {
			out += symbol + " " + s.random(within, deep)
		}
		return out
	case "part":
		if deep == 0 || s.Intn(3) == 0 {
			return s.random("atom", deep)
		}
		return either("not "+s.random("part", deep-1), "( "+s.random("or", deep-1)+") ")
	case "bound":
		return either("", "- ") + either("inf ", strconv.Itoa(s.number())+" ")
	case "range":
		return strconv.Itoa(s.number()) + either(" ", " - "+strconv.Itoa(s.number())+" ")
	}
	if s.Intn(3) == 0 {
		return "real " + s.random("bound", 0) + "to " + s.random("bound", 0)
	}
	out := []string{"client ", "unit ", "func ", "addr ", "value "}[s.Intn(5)] + s.random("range", 0)
	for s.Intn(4) == 0 {
		out += ", " + s.random("range", 0)
	}
	return out
}

// P12.1 and P12.2: random policies are read; what was read, written, is read as the same; their text and their tokens are read alike.
func TestReadIsWrittenAndRead(t *testing.T) {
	s := &shaper{Rand: rand.New(rand.NewSource(21))}
	for range 3000 {
		out := ""
		for range s.Intn(6) {
			out += s.random("rule", s.Intn(5))
		}
		text, l := s.surface(tokens(out))
		if len(text) > api.MaxText {
			continue
		}
		rules, ok := wantVerdict(t, l)
		if !ok {
			t.Fatalf("%q is refused", text)
		}
		wantText(t, text, rules)
		again, ok := tree.Text(rules)
		if !ok || len(again) > api.MaxText {
			t.Fatalf("%q is read as %s, which has no text", brief(text), told(rules))
		}
		got, _, e := Text(again)
		if e != api.OK || !tree.Rules(got, rules) {
			t.Fatalf("%q is read as %s, %d; %q as %s", brief(text), told(rules), e, brief(again), told(got))
		}
		for i, r := range got {
			if r.Line != i+1 {
				t.Fatalf("Text(%q): the rule %d has the line %d", again, i, r.Line)
			}
		}
	}
}

// P12.1: random policies with a few tokens changed, dropped, doubled or put elsewhere.
func TestRandomFaults(t *testing.T) {
	s := &shaper{Rand: rand.New(rand.NewSource(5))}
	words := vocabulary()
	for range 20000 {
		out := ""
		for range 1 + s.Intn(3) {
			out += s.random("rule", s.Intn(4))
		}
		_, l := s.surface(tokens(out))
		for range 1 + s.Intn(3) {
			i := s.Intn(len(l))
			switch s.Intn(4) {
			case 0:
				l[i] = token(words[s.Intn(len(words))], l[i].Line)
			case 1:
				l = slices.Insert(l, i, l[s.Intn(len(l))])
			case 2:
				j := s.Intn(len(l))
				l[i], l[j] = l[j], l[i]
			default:
				if len(l) > 1 {
					l = slices.Delete(l, i, i+1)
				}
			}
		}
		wantVerdict(t, l)
	}
}

// Rule 5: the tokens handed in aren't changed, their spare room neither, and not kept.
func TestNothingIsChangedOrKept(t *testing.T) {
	for _, s := range append(samples(), "deny when func 3 , , 4 ;", "allow when real - - 5 to 6 ;") {
		whole := tokens(s + " maybe maybe maybe")
		before := slices.Clone(whole)
		l := whole[:len(whole)-3]
		got, line, e := Tokens(l)
		if !lex.Same(whole, before) {
			t.Fatalf("Tokens(%s) changes what is handed in", s)
		}
		clear(whole)
		again, againLine, againE := Tokens(before[:len(l)])
		if line != againLine || e != againE || !sameLines(got, again) {
			t.Fatalf("Tokens(%s) keeps what is handed in", s)
		}
	}
}

// Rule 6: an answer isn't changed by what is done with another one, or read later.
func TestAnswersStandAlone(t *testing.T) {
	const s = "deny when not (func 3,4 or unit 5-6) and addr 7; allow when func 1 and func 2;"
	first, _, _ := Text(s)
	second, _, _ := Text(s)
	first[0].When.Of[0].Of[0].Of[0].Ranges[0].Low = 99
	first[1].When.Of[1].Field = 1
	first[0].When.Of[0].Of[0].Of = append(first[0].When.Of[0].Of[0].Of, fn(9))
	wantTextFault(t, "deny when func 3 or unit;", 1, api.ErrForm)
	wantText(t, s, second)
	wantText(t, s, []api.Rule{{When: andOf(notOf(orOf(ranged(3, 3, 3, 4, 4), ranged(2, 5, 6))), ranged(4, 7, 7)), Line: 1}, {Allow: true, When: andOf(fn(1), fn(2)), Line: 1}})
}
