package lex

import (
	"math"
	"math/big"
	"math/rand"
	"reflect"
	"regexp"
	"slices"
	"strings"
	"testing"

	"gatewarden/api"
)

func word(s string, line int) api.Token {
	return api.Token{Kind: 1, Text: s, Line: line}
}

func num(s string, n, line int) api.Token {
	return api.Token{Kind: 2, Text: s, Num: n, Line: line}
}

func mark(s string, line int) api.Token {
	return api.Token{Kind: 3, Text: s, Line: line}
}

func minusAt(line int) api.Token {
	return api.Token{Kind: 4, Text: "-", Line: line}
}

// kinds are tokens of each kind, in the first line: of one byte and of more, with the ends of what they are made of.
func kinds() []api.Token {
	return []api.Token{
		word("a", 1), word("z", 1), word("m", 1), word("az", 1), word("allow", 1), word("abcdefghijklmnopqrstuvwxyz", 1),
		num("0", 0, 1), num("9", 9, 1), num("7", 7, 1), num("10", 10, 1), num("1234567890", 1234567890, 1), num("9007199254740992", 1<<53, 1),
		mark("(", 1), mark(")", 1), mark(",", 1), mark(";", 1),
		minusAt(1),
	}
}

// gaps part tokens, each with how many lines it ends.
func gaps() map[string]int {
	return map[string]int{
		" ": 0, "\t": 0, "\r": 0, "  ": 0, " \t\r ": 0, "\r\r": 0,
		"\n": 1, "\r\n": 1, "\n\r": 1, "\n\n": 2, " \n\t\n\r\n ": 3,
		"#\n": 1, "# x\n": 1, " # allow func 3;\r\n": 1, "#\n#\n": 2, "# A.\n\n# 007\n": 3, "#\r- x\n": 1, "##\n": 1,
	}
}

// strays are bytes that no token begins with, and that part none.
func strays() []byte {
	var l []byte
	for b := range 256 {
		if !strings.ContainsRune("abcdefghijklmnopqrstuvwxyz0123456789(),;- \t\r\n#", rune(b)) {
			l = append(l, byte(b))
		}
	}
	return l
}

// wrongNumbers are digits that are no number from 0 to 2^53, so written.
func wrongNumbers() []string {
	l := []string{
		"00", "01", "007", "010", "0123456789", "09007199254740992", strings.Repeat("0", 100),
		"9007199254740993", "9007199254740994", "9007199254741000", "9999999999999999", "10000000000000000", "90071992547409920",
		strings.Repeat("9", 1000),
	}
	for _, bits := range []uint{63, 64, 128} {
		round := new(big.Int).Lsh(big.NewInt(1), bits)
		l = append(l, round.String(), round.Add(round, big.NewInt(7)).String())
	}
	return l
}

// moved answers tokens that stand so many lines further on.
func moved(l []api.Token, lines int) []api.Token {
	l = slices.Clone(l)
	for i := range l {
		l[i].Line += lines
	}
	return l
}

// The first wrong answer ends a test: the loops over many texts would tell thousands of them.
func want(t *testing.T, s string, l ...api.Token) {
	t.Helper()
	got, at, e := Split(s)
	if !slices.Equal(got, l) || at != 0 || e != api.OK {
		t.Fatalf("Split(%q) = %+v, %d, %d; want %+v", s, got, at, e, l)
	}
	if !Same(got, l) || !Same(l, got) {
		t.Fatalf("Split(%q) isn't the same as what it must be", s)
	}
}

// wantWrong asks for a text that isn't made of tokens, as the line tells first.
func wantWrong(t *testing.T, s string, line int) {
	t.Helper()
	if l, at, e := Split(s); len(l) != 0 || at != line || e != api.ErrWord {
		t.Fatalf("Split(%q) = %+v, %d, %d; want an error in line %d", s, l, at, e, line)
	}
}

func wantMany(t *testing.T, s string) {
	t.Helper()
	if l, at, e := Split(s); len(l) != 0 || at != 0 || e != api.ErrMany {
		t.Fatalf("Split of %d bytes = %d tokens, %d, %d; want ErrMany", len(s), len(l), at, e)
	}
}

// P10.1: the chapter's example, and a policy of some lines.
func TestPolicies(t *testing.T) {
	want(t, "allow func 3; # reading", word("allow", 1), word("func", 1), num("3", 3, 1), mark(";", 1))
	want(t, "allow when client 1,4-6\r\n\tand (not real -5 to inf) # all\r\nrate 1 per 20 burst 3;\n\n# the rest\ndeny;\n",
		word("allow", 1), word("when", 1), word("client", 1), num("1", 1, 1), mark(",", 1), num("4", 4, 1), minusAt(1), num("6", 6, 1),
		word("and", 2), mark("(", 2), word("not", 2), word("real", 2), minusAt(2), num("5", 5, 2), word("to", 2), word("inf", 2), mark(")", 2),
		word("rate", 3), num("1", 1, 3), word("per", 3), num("20", 20, 3), word("burst", 3), num("3", 3, 3), mark(";", 3),
		word("deny", 6), mark(";", 6))
}

// P10.1: a text without tokens has none: no bytes, what parts tokens alone, remarks alone.
func TestTextsWithoutTokens(t *testing.T) {
	want(t, "")
	for gap := range gaps() {
		want(t, gap)
		want(t, strings.Repeat(gap, 7))
		want(t, gap+"#")
		want(t, gap+"# allow 007 .")
	}
	for _, s := range []string{"#", "##", "# ", "#\r", "#x", "#\n#", "#(\r),;-7", " \t#\r"} {
		want(t, s)
	}
	want(t, strings.Repeat(" ", 4096))
	want(t, strings.Repeat("\n", 4096))
	want(t, strings.Repeat("#", 4096))
}

// P10.1: each kind of token alone, with each gap ahead, behind, and on both sides.
func TestOneToken(t *testing.T) {
	for _, one := range kinds() {
		want(t, one.Text, one)
		for gap, lines := range gaps() {
			there := moved([]api.Token{one}, lines)
			want(t, gap+one.Text, there...)
			want(t, one.Text+gap, one)
			want(t, gap+one.Text+gap, there...)
		}
		want(t, one.Text+"#", one)
		want(t, one.Text+"#"+one.Text, one)
	}
}

// P10.1: each byte that may begin a token makes that token: the letters and digits one of its own kind, and no other mark is one.
func TestEachByteOfAToken(t *testing.T) {
	for b := byte('a'); b <= 'z'; b++ {
		s := string([]byte{b})
		want(t, s, word(s, 1))
		want(t, "x"+s+"y", word("x"+s+"y", 1))
	}
	for b := byte('0'); b <= '9'; b++ {
		s := string([]byte{b})
		want(t, s, num(s, int(b-'0'), 1))
		want(t, "1"+s+"1", num("1"+s+"1", 101+10*int(b-'0'), 1))
	}
	for _, s := range []string{"(", ")", ",", ";"} {
		want(t, s, mark(s, 1))
		want(t, s+s+s, mark(s, 1), mark(s, 1), mark(s, 1))
	}
	want(t, "-", minusAt(1))
	want(t, "---", minusAt(1), minusAt(1), minusAt(1))
}

// isJoined answers whether two tokens without a gap would be one: words are as long as may be, and numbers too.
func isJoined(a, b api.Token) bool {
	return a.Kind == b.Kind && a.Kind <= 2
}

// P10.1: each kind next to each other kind, with nothing between, and with each gap.
func TestTwoTokens(t *testing.T) {
	for _, a := range kinds() {
		for _, b := range kinds() {
			if !isJoined(a, b) {
				want(t, a.Text+b.Text, a, b)
			}
			for gap, lines := range gaps() {
				want(t, a.Text+gap+b.Text, append([]api.Token{a}, moved([]api.Token{b}, lines)...)...)
			}
		}
	}
	want(t, "allowfunc", word("allowfunc", 1))
	want(t, "12"+"34", num("1234", 1234, 1))
	want(t, "0 0", num("0", 0, 1), num("0", 0, 1))
}

// P10.1: three in a row with nothing between: a token's end doesn't hang on what stands ahead of it.
func TestThreeTokens(t *testing.T) {
	for _, a := range kinds() {
		for _, b := range kinds() {
			for _, c := range kinds() {
				if !isJoined(a, b) && !isJoined(b, c) {
					want(t, a.Text+b.Text+c.Text, a, b, c)
				}
			}
		}
	}
}

// P10.1: words and numbers that end with the text, however long they are.
func TestTokensAtTheEnd(t *testing.T) {
	for _, n := range []int{1, 2, 7, 255, 256, 1000, 4096} {
		s := strings.Repeat("q", n)
		want(t, s, word(s, 1))
	}
	want(t, "(allow", mark("(", 1), word("allow", 1))
	want(t, "(17", mark("(", 1), num("17", 17, 1))
	want(t, "\n\nallow", word("allow", 3))
	want(t, "\n\n17", num("17", 17, 3))
	want(t, "1-9007199254740992", num("1", 1, 1), minusAt(1), num("9007199254740992", 9007199254740992, 1))
}

// P10.1: remarks at a line's end and at the text's end, and with tokens' bytes in them.
func TestRemarks(t *testing.T) {
	a, b := word("a", 1), num("5", 5, 2)
	for _, inside := range []string{
		"", " ", "x", "allow func 3;", "( ) , ; - 7", "#", "# #", "007", "9007199254740993", "A_b.", "\"", "\r", "\r7", "\t", "\x00", "\xff\xfe", "\u2028", strings.Repeat("- ", 900),
	} {
		want(t, "a#"+inside+"\n5", a, b)
		want(t, "a #"+inside+"\n5#"+inside, a, b)
		want(t, "#"+inside+"\n5", b)
		want(t, "a#"+inside, a)
		want(t, "#"+inside)
		want(t, "a\n#"+inside+"\n\n#"+inside+"\n5", a, num("5", 5, 5))
	}
}

// P10.1: each byte but a line feed may stand in a remark; a line feed ends it.
func TestEachByteOfARemark(t *testing.T) {
	for b := range 256 {
		if b == '\n' {
			continue
		}
		s := string([]byte{'#', byte(b)})
		want(t, s)
		want(t, s+"x 7;")
		want(t, s+"\nx", word("x", 2))
		want(t, "# x"+s+"\n-", minusAt(2))
	}
	want(t, "#\nx", word("x", 2))
}

// P10.1: lines begin at 1, and each line feed ends one, a return none.
func TestLines(t *testing.T) {
	want(t, "a", word("a", 1))
	want(t, "\na\n\nb\nc", word("a", 2), word("b", 4), word("c", 5))
	want(t, "a\r\rb\r\nc\n\rd\r", word("a", 1), word("b", 1), word("c", 2), word("d", 3))
	want(t, "a # b\nc # d\r\n# e\n# f\n\n-", word("a", 1), word("c", 2), minusAt(6))
	want(t, "a\t\n\tb", word("a", 1), word("b", 2))
	for _, n := range []int{1, 2, 9, 255, 256, 257, 1000, 4095} {
		want(t, strings.Repeat("\n", n)+";", mark(";", n+1))
	}
	var l []api.Token
	for line := range 2048 {
		l = append(l, mark(",", line+1))
	}
	want(t, strings.Repeat(",\n", 2048), l...)
}

// P10.1: numbers from 0 to 2^53, with their digits beside them.
func TestNumbers(t *testing.T) {
	for s, n := range map[string]int{
		"0": 0, "1": 1, "9": 9, "10": 10, "17": 17, "100": 100, "255": 255, "256": 256, "65535": 65535, "65536": 65536,
		"2147483648": 1 << 31, "4294967296": 1 << 32, "999999999999999": 999999999999999,
		"9007199254740990": 1<<53 - 2, "9007199254740991": 1<<53 - 1, "9007199254740992": 1 << 53,
	} {
		want(t, s, num(s, n, 1))
		want(t, "x"+s+"x", word("x", 1), num(s, n, 1), word("x", 1))
		want(t, "-"+s+"-"+s, minusAt(1), num(s, n, 1), minusAt(1), num(s, n, 1))
		want(t, "# "+s+"0000\n"+s+" ", num(s, n, 2))
	}
}

// P10.1: numbers that layer 2's Get doesn't tell, with their lines, ahead of and behind tokens.
func TestWrongNumbers(t *testing.T) {
	for _, s := range wrongNumbers() {
		wantWrong(t, s, 1)
		wantWrong(t, s+"\n", 1)
		wantWrong(t, "\n"+s, 2)
		want(t, "#"+s)
		for _, one := range kinds() {
			if one.Kind != 2 {
				wantWrong(t, one.Text+s, 1)
				wantWrong(t, s+one.Text, 1)
			}
			for gap, lines := range gaps() {
				wantWrong(t, gap+s, 1+lines)
				wantWrong(t, one.Text+gap+s, 1+lines)
				wantWrong(t, s+gap+one.Text, 1)
			}
		}
	}
	wantWrong(t, strings.Repeat("1", 4096), 1)
}

// P10.1: each byte that no token begins with, in the first line and in later ones, ahead of and behind tokens, and in a remark.
func TestStrays(t *testing.T) {
	for _, b := range strays() {
		s := string([]byte{b})
		wantWrong(t, s, 1)
		wantWrong(t, s+"\n", 1)
		wantWrong(t, "\n\n"+s, 3)
		wantWrong(t, "\r\t "+s, 1)
		want(t, "#"+s)
		want(t, "#"+s+"\n;", mark(";", 2))
		for _, one := range kinds() {
			wantWrong(t, s+one.Text, 1)
			wantWrong(t, one.Text+s, 1)
			wantWrong(t, one.Text+s+one.Text, 1)
			for gap, lines := range gaps() {
				wantWrong(t, one.Text+gap+s, 1+lines)
				wantWrong(t, s+gap+one.Text, 1)
				wantWrong(t, gap+one.Text+s+gap, 1+lines)
				want(t, one.Text+gap+"#"+s, one)
			}
		}
	}
}

// P10.1: what looks like a token's byte, and is none.
func TestBytesBesideTokens(t *testing.T) {
	for _, s := range []string{
		"A", "Allow", "aLLOW", "allow_x", "a.b", "a:b", "1.5", "+1", "1+", "_", "`", "{", "/", ":", "[", "]", "{}", "\"x\"", "'x'", "*", "=", "!", "\\", "a\\",
		"\v", "\f", "\x00", "\x7f", "\x85", "\xa0", "\u00a0", "\u2028", "\ufeff", "\u00e4", "\u0430", "\u0663", "\uff13", "\u2212", "\u2013",
	} {
		wantWrong(t, s, 1)
		wantWrong(t, "allow;\n"+s+"\n", 2)
	}
}

// P10.1: where more than one thing is wrong, the line is that of the first one in the text.
func TestTheFirstIsTold(t *testing.T) {
	wantWrong(t, ".\n007", 1)
	wantWrong(t, "007\n.", 1)
	wantWrong(t, "x\n.\n007\nA", 2)
	wantWrong(t, "x\n007\n.\nA", 2)
	wantWrong(t, "x\n#.\n7 9007199254740993\n.", 3)
	wantWrong(t, "x # 007 .\n\n;A\n00", 3)
	for _, s := range wrongNumbers() {
		wantWrong(t, "1\n"+s+"\n.", 2)
		wantWrong(t, "1\n.\n"+s, 2)
	}
}

// P10.1: as many bytes as may be, and one more: then nothing of the text counts.
func TestTheMostBytes(t *testing.T) {
	full := strings.Repeat("allow; # x\n", 372) // of 4092 bytes
	if len(full) != 4092 {
		t.Fatalf("the text has %d bytes", len(full))
	}
	var l []api.Token
	for line := range 372 {
		l = append(l, word("allow", line+1), mark(";", line+1))
	}
	want(t, full, l...)
	want(t, full+"#abc", l...)
	want(t, full+"abcd", append(l, word("abcd", 373))...)
	want(t, full+" \n 7", append(l, num("7", 7, 374))...)
	wantWrong(t, full+"abc.", 373)
	wantWrong(t, full+"\n\n\n.", 376)
	for _, more := range []string{"abcde", "    .", "#abcd", "\n\n\n\n\n", "00000"} {
		wantMany(t, full+more)
	}
}

// P10.1: too many bytes of any kind, whatever is wrong with them besides.
func TestTooManyBytes(t *testing.T) {
	for b := range 256 {
		s := string([]byte{byte(b)})
		for _, n := range []int{4097, 4098, 8192, 65536} {
			wantMany(t, strings.Repeat(s, n))
		}
		wantLexed(t, strings.Repeat(s, 4096))
	}
	var most []api.Token
	for range 4096 {
		most = append(most, mark("(", 1))
	}
	want(t, strings.Repeat("(", 4096), most...)
}

func wantSame(t *testing.T, a, b []api.Token, same bool) {
	t.Helper()
	if Same(a, b) != same || Same(b, a) != same {
		t.Fatalf("Same(%+v, %+v) isn't %v both ways", a, b, same)
	}
}

// unlike are tokens, each unlike the others, also such as Split never tells.
func unlike() []api.Token {
	return append(kinds(), api.Token{}, api.Token{Kind: -1, Text: "\xff", Num: math.MinInt, Line: math.MaxInt}, api.Token{Kind: 9, Num: -7}, num("x", 7, 0), word("", 1))
}

// P10.1: lists are the same as themselves; nil is as good as empty.
func TestSameOfTheSame(t *testing.T) {
	wantSame(t, nil, nil, true)
	wantSame(t, nil, []api.Token{}, true)
	wantSame(t, []api.Token{}, []api.Token{}, true)
	for n := range len(unlike()) {
		wantSame(t, unlike()[:n], slices.Clone(unlike()[:n]), true)
	}
}

// P10.1: lists of unlike lengths, of which one begins or ends as the other one.
func TestSameOfUnlikeLengths(t *testing.T) {
	l := unlike()
	for n := range l {
		wantSame(t, l, l[:n], false)
		wantSame(t, l, l[n+1:], false)
		wantSame(t, nil, l[:n+1], false)
	}
	wantSame(t, []api.Token{{}}, nil, false)
	wantSame(t, []api.Token{{}}, []api.Token{{}, {}}, false)
}

// others answers tokens that differ from one in one field alone.
func others(one api.Token) []api.Token {
	var l []api.Token
	for _, n := range []int{1, -1, 256, 1 << 32, math.MinInt} {
		kind, number, line := one, one, one
		kind.Kind += n
		number.Num += n
		line.Line += n
		l = append(l, kind, number, line)
	}
	for _, s := range []string{one.Text + "x", one.Text + " ", one.Text + "\x00", "x" + one.Text, strings.ToUpper(one.Text) + "."} {
		text := one
		text.Text = s
		l = append(l, text)
	}
	return l
}

// P10.1: lists that differ in one field of one token only, at each place.
func TestSameOfOneOtherToken(t *testing.T) {
	for n := 1; n <= 5; n++ {
		l := unlike()[:n]
		for at := range n {
			for _, one := range others(l[at]) {
				m := slices.Clone(l)
				m[at] = one
				wantSame(t, l, m, false)
			}
		}
	}
	for _, one := range unlike() {
		for _, other := range others(one) {
			wantSame(t, []api.Token{one}, []api.Token{other}, false)
		}
	}
}

// P10.1: lists with the same tokens in another order.
func TestSameOfAnotherOrder(t *testing.T) {
	l := kinds()
	for at := 1; at < len(l); at++ {
		m := slices.Clone(l)
		m[at-1], m[at] = m[at], m[at-1]
		wantSame(t, l, m, false)
	}
}

// P10.1: Same asks of the tokens, not of the texts that they are of.
func TestSameOfTextsWithOtherGaps(t *testing.T) {
	l, _, _ := Split("allow when func 3-4;")
	m, _, _ := Split(" allow\twhen func 3 - 4 ; # it\n")
	wantSame(t, l, m, true)
	n, _, _ := Split("allow when func\n3-4;")
	wantSame(t, l, n, false)
}

// What parts tokens, and tokens by their kinds, as patterns: they share nothing with the program's own loops.
var (
	parting = regexp.MustCompile("^([ \t\r\n]|#[^\n]*)+")
	tokens  = []*regexp.Regexp{
		regexp.MustCompile(`^[a-z]+`), regexp.MustCompile(`^[0-9]+`), regexp.MustCompile(`^[(),;]`), regexp.MustCompile(`^-`),
	}
	asWritten = regexp.MustCompile(`^(0|[1-9][0-9]*)$`)
)

// lexed works out by the patterns what Split must answer.
func lexed(s string) ([]api.Token, int, api.Errno) {
	if len(s) > 4096 {
		return nil, 0, api.ErrMany
	}
	var l []api.Token
	rest := []byte(s)
	for {
		rest = rest[len(parting.Find(rest)):]
		line := 1 + strings.Count(s[:len(s)-len(rest)], "\n")
		if len(rest) == 0 {
			return l, 0, api.OK
		}
		one := api.Token{Line: line}
		for i, r := range tokens {
			if found := r.Find(rest); found != nil {
				one.Kind, one.Text = i+1, string(found)
			}
		}
		if one.Kind == 2 {
			n, _ := new(big.Int).SetString(one.Text, 10)
			if !asWritten.MatchString(one.Text) || n.Cmp(big.NewInt(1<<53)) > 0 {
				return nil, line, api.ErrWord
			}
			one.Num = int(n.Int64())
		}
		if one.Kind == 0 {
			return nil, line, api.ErrWord
		}
		l, rest = append(l, one), rest[len(one.Text):]
	}
}

func wantLexed(t *testing.T, s string) {
	t.Helper()
	l, at, e := lexed(s)
	got, gotAt, gotE := Split(s)
	if !slices.Equal(got, l) || gotAt != at || gotE != e {
		t.Fatalf("Split(%q) = %+v, %d, %d; want %+v, %d, %d", s, got, gotAt, gotE, l, at, e)
	}
}

// P10.1: each text of one byte and of two, and with one more that stands for its kind.
func TestAllShortTexts(t *testing.T) {
	for a := range 256 {
		wantLexed(t, string([]byte{byte(a)}))
		for b := range 256 {
			wantLexed(t, string([]byte{byte(a), byte(b)}))
			for _, c := range []byte("a07-;( \n\r#.") {
				wantLexed(t, string([]byte{byte(a), byte(b), c}))
				wantLexed(t, string([]byte{c, byte(a), byte(b)}))
			}
		}
	}
}

// text makes any text: of tokens and gaps alone, or with anything in it.
func text(rule *rand.Rand, size int, loose bool) string {
	pieces := []string{"allow", "x", "0", "3", "17", "9007199254740992", "(", ")", ",", ";", "-", " ", "\t", "\n", "\r\n", "# x 0 -\n", "#"}
	if loose {
		pieces = append(pieces, "007", "9007199254740993", "A", ".", "_", "\x00", "\xff", "\u00e4")
	}
	s := ""
	for range rule.Intn(size) {
		s += pieces[rule.Intn(len(pieces))]
		if !loose {
			s += []string{" ", "\n", "# \n"}[rule.Intn(3)]
		}
	}
	return s
}

// P10.1: texts of any kind.
func TestTextsOfAnyKind(t *testing.T) {
	rule, good := rand.New(rand.NewSource(10)), 0
	for i := range 20000 {
		s := text(rule, 12, i%2 == 0)
		wantLexed(t, s)
		if _, _, e := Split(s); e == api.OK {
			good++
		}
	}
	if good < 5000 || good > 19000 {
		t.Fatalf("%d of 20000 texts are made of tokens", good)
	}
	for range 2000 {
		b := make([]byte, rule.Intn(4200))
		for i := range b {
			b[i] = " \n\r\t#az059(),;--"[rule.Intn(16)]
		}
		wantLexed(t, string(b))
	}
}

// wantBoth asks for the tokens of two texts that are put together.
func wantBoth(t *testing.T, a, b string) {
	t.Helper()
	l, _, e := Split(a)
	m, _, f := Split(b)
	if e != api.OK || f != api.OK {
		t.Fatalf("%q or %q isn't made of tokens", a, b)
	}
	want(t, a+"\n"+b, append(slices.Clone(l), moved(m, 1+strings.Count(a, "\n"))...)...)
}

// P10.2: two texts with a line feed between have the tokens of both.
func TestTextsPutTogether(t *testing.T) {
	texts := []string{"", "\n", " ", "#", "# it", "allow;", "allow; # it", "allow;\n", "x\n\ny", "7", "0", "-", "(", "\r", "a # b\nc # d", "#\n#", "\n\n;"}
	for _, one := range kinds() {
		texts = append(texts, one.Text)
	}
	for _, a := range texts {
		for _, b := range texts {
			wantBoth(t, a, b)
		}
	}
	want(t, "allow\nfunc", word("allow", 1), word("func", 2))
	want(t, "1\n2", num("1", 1, 1), num("2", 2, 2))
	want(t, "0\n0", num("0", 0, 1), num("0", 0, 2))
	want(t, "# x\ny", word("y", 2))
	rule := rand.New(rand.NewSource(102))
	for range 5000 {
		wantBoth(t, text(rule, 20, false), text(rule, 20, false))
	}
}

// P10.2: three texts, and so any number of them.
func TestManyTextsPutTogether(t *testing.T) {
	rule := rand.New(rand.NewSource(103))
	for range 1000 {
		a, b, c := text(rule, 9, false), text(rule, 9, false), text(rule, 9, false)
		wantBoth(t, a+"\n"+b, c)
		wantBoth(t, a, b+"\n"+c)
	}
}

// P10.2: what is wrong in one of both is wrong in both; the second one's lines are counted on.
func TestWrongTextsPutTogether(t *testing.T) {
	rule := rand.New(rand.NewSource(104))
	for _, wrong := range []string{".", "007", "x\n A", "\n\n9007199254740993 ;", "# x\n# y\n_"} {
		_, at, e := Split(wrong)
		if e != api.ErrWord {
			t.Fatalf("%q is made of tokens", wrong)
		}
		for range 200 {
			good := text(rule, 12, false)
			wantWrong(t, good+"\n"+wrong, at+1+strings.Count(good, "\n"))
			wantWrong(t, wrong+"\n"+good, at)
			wantWrong(t, wrong+"\n"+wrong, at)
		}
	}
}

// P10.1: Same changes nothing, and what Split answers isn't kept: the next answer doesn't feel what became of it.
func TestNothingIsKept(t *testing.T) {
	l, _, _ := Split("allow 3;")
	was := slices.Clone(l)
	for i := range l {
		l[i] = api.Token{Kind: 9, Text: "?", Num: 9, Line: 9}
	}
	want(t, "allow 3;", was...)
	a := append(make([]api.Token, 0, 64), kinds()...)
	before := slices.Clone(a[:cap(a)])
	Same(a, a[1:])
	Same(a[:3], a[:4])
	if !reflect.DeepEqual(a[:cap(a)], before) {
		t.Fatal("Same changes what is handed in")
	}
}
