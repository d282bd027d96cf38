package guard

import (
	"math"
	"math/big"
	"strings"
	"testing"
)

// last is the greatest number that is written, and lastText its digits, spelt out so that they share nothing with the program's own.
const (
	last     = 9007199254740992
	lastText = "9007199254740992"
)

// The first wrong answer ends a test: the loops over many texts would tell thousands of them.
func wantPut(t *testing.T, n int, want string, good bool) {
	t.Helper()
	if s, ok := Put(n); s != want || ok != good {
		t.Fatalf("Put(%d) = %q, %v; want %q, %v", n, s, ok, want, good)
	}
}

func wantGet(t *testing.T, s string, want int, good bool) {
	t.Helper()
	if n, ok := Get(s); n != want || ok != good {
		t.Fatalf("Get(%s) = %d, %v; want %d, %v", short(s), n, ok, want, good)
	}
}

func wantLead(t *testing.T, s string, want int) {
	t.Helper()
	if n := Lead(s); n != want {
		t.Fatalf("Lead(%s) = %d; want %d", short(s), n, want)
	}
}

// short keeps what a test tells of a very long text readable.
func short(s string) string {
	if len(s) > 60 {
		s = s[:60] + ".."
	}
	return "\"" + s + "\""
}

// counted answers the texts of the numbers from 0 on, made by counting on paper: nothing is divided, nothing is multiplied.
func counted(many int) []string {
	l, digits := make([]string, 0, many), []byte("0")
	for range many {
		l = append(l, string(digits))
		digits = following(digits)
	}
	return l
}

func following(digits []byte) []byte {
	for i := len(digits) - 1; i >= 0; i-- {
		if digits[i] < '9' {
			digits[i]++
			return digits
		}
		digits[i] = '0'
	}
	return append([]byte("1"), digits...)
}

// ordinary are numbers and their texts, with both ends of what is written.
func ordinary() map[int]string {
	return map[int]string{
		0: "0", 1: "1", 2: "2", 7: "7", 9: "9", 10: "10", 11: "11", 17: "17", 99: "99",
		100: "100", 101: "101", 109: "109", 110: "110", 255: "255", 256: "256", 1000: "1000", 65535: "65535", 65536: "65536",
		1234567890: "1234567890", 9876543210: "9876543210",
		1 << 31: "2147483648", 1<<32 - 1: "4294967295", 1 << 32: "4294967296", 1<<32 + 5: "4294967301",
		999999999999999: "999999999999999", 1000000000000000: "1000000000000000",
		8999999999999999: "8999999999999999", 9000000000000000: "9000000000000000",
		last - 2: "9007199254740990", last - 1: "9007199254740991", last: lastText,
	}
}

// P2.1: Put writes the decimal digits, up to 2^53.
func TestPutWritesDigits(t *testing.T) {
	for n, s := range ordinary() {
		wantPut(t, n, s, true)
	}
	for n, s := range counted(100001) {
		wantPut(t, n, s, true)
	}
}

// P2.1: Put of what is below 0 or above 2^53.
func TestPutRefusesOtherNumbers(t *testing.T) {
	for _, n := range []int{
		-1, -2, -7, -10, -258, -1 << 31, -1 << 32, 1 - last, -last, -last - 1, math.MinInt, math.MinInt + 1,
		last + 1, last + 2, last + 10, 2 * last, 10 * last, 1 << 54, 1 << 62, math.MaxInt - 1, math.MaxInt,
	} {
		wantPut(t, n, "", false)
	}
}

// P2.1: Get reads what is written so, up to 2^53.
func TestGetReadsDigits(t *testing.T) {
	for n, s := range ordinary() {
		wantGet(t, s, n, true)
	}
	for n, s := range counted(100001) {
		wantGet(t, s, n, true)
	}
}

// P2.1: Get of each text of one byte and of two, whatever the bytes.
func TestGetOfAllShortTexts(t *testing.T) {
	numbers := map[string]int{}
	for n, s := range counted(100) {
		numbers[s] = n
	}
	for a := range 256 {
		one := string([]byte{byte(a)})
		n, good := numbers[one]
		wantGet(t, one, n, good)
		for b := range 256 {
			two := string([]byte{byte(a), byte(b)})
			n, good := numbers[two]
			wantGet(t, two, n, good)
		}
	}
}

// P2.1: Get of texts that hold no digits, or more than digits.
func TestGetRefusesOtherTexts(t *testing.T) {
	for _, s := range []string{
		"", " ", "-", "+", "x", "inf", "NaN", "\x00", "\n", "-0", "+0", "-1", "+1", "--1", "-9007199254740992",
		" 1", "1 ", "1 2", "\t1", "1\t", "1\n", "1\r\n", "\n1", "\x001", "1\x00", "1\xff", "\xff",
		"1x", "x1", "1x1", "12x", "12-3", "1,2", "1,000", "1_000", "1.0", "1.", ".1", "1e3", "0x10", "0b1", "0o7", "1h", "ff",
		"/", ":", "1/", "1:", "/1", ":1", "123456789012345/", "123456789012345:",
		"\u0663", "1\u0663", "\uff13", "1\uff13", "\u00b2", "\u2460",
	} {
		wantGet(t, s, 0, false)
	}
}

// P2.1: Get with one byte that is no digit, at each place of a number.
func TestGetRefusesWhereOneByteIsNoDigit(t *testing.T) {
	for at := range len(lastText) {
		for b := range 256 {
			if '0' <= b && b <= '9' {
				continue
			}
			s := []byte("1234567890123456")
			s[at] = byte(b)
			wantGet(t, string(s), 0, false)
		}
	}
}

// P2.1: Get with noughts ahead.
func TestGetRefusesNoughtsAhead(t *testing.T) {
	for _, s := range []string{"00", "01", "007", "010", "000", "0000000000000000", "00000000000000000000001", "09007199254740992", "0x", "0 "} {
		wantGet(t, s, 0, false)
	}
	for _, s := range counted(1000) {
		wantGet(t, "0"+s, 0, false)
		wantGet(t, "00"+s, 0, false)
	}
}

// P2.1: Get above 2^53, also where a number of 64 bits goes round and would look like one that may be.
func TestGetRefusesGreaterNumbers(t *testing.T) {
	for more := int64(1); more <= 1000; more++ {
		wantGet(t, big.NewInt(last+more).String(), 0, false)
	}
	for _, bits := range []uint{54, 55, 63, 64, 65, 96, 128, 192, 1024} {
		round := new(big.Int).Lsh(big.NewInt(1), bits)
		for _, more := range []int64{-1, 0, 1, 7, last} {
			wantGet(t, new(big.Int).Add(round, big.NewInt(more)).String(), 0, false)
		}
	}
	for _, s := range []string{"9007199254740993", "9007199254741000", "9999999999999999", "10000000000000000", "90071992547409920", "99999999999999999999999"} {
		wantGet(t, s, 0, false)
	}
}

// P2.1: Get of very long texts.
func TestGetRefusesVeryLongTexts(t *testing.T) {
	for _, c := range []string{"0", "1", "9", "x", " ", "-", "\x00"} {
		long := strings.Repeat(c, 1<<20)
		wantGet(t, long, 0, false)
		wantGet(t, "1"+long, 0, false)
		wantGet(t, long+"1", 0, false)
	}
}

// P2.1: Lead counts the digits ahead, whatever number they are, and whatever follows.
func TestLeadCountsDigitsAhead(t *testing.T) {
	for s, n := range map[string]int{
		"": 0, "x": 0, "x12": 0, "-1": 0, "+1": 0, " 1": 0, "\n1": 0, "/1": 0, ":1": 0,
		"0": 1, "7": 1, "12": 2, "12x3": 2, "12 3": 2, "12-34": 2, "12,34": 2, "12/": 2, "12:": 2, "1\x002": 1, "1\n2": 1,
		"007": 3, "00": 2, "0x10": 1, "1e3": 1, "1.5": 1, "0123456789": 10, "0123456789:": 10,
		lastText: 16, "9007199254740993": 16, "99999999999999999999999;": 23,
		"\u0663": 0, "1\u0663": 1, "\uff13": 0, "12\uff13": 2, "\xff1": 0,
	} {
		wantLead(t, s, n)
	}
}

// P2.1: Lead with each byte ahead of digits, and behind them.
func TestLeadEndsAtEachOtherByte(t *testing.T) {
	for b := range 256 {
		one, isOne := string([]byte{byte(b)}), '0' <= b && b <= '9'
		ahead, behind := 0, 2
		if isOne {
			ahead, behind = 3, 5
		}
		wantLead(t, one+"12", ahead)
		wantLead(t, "12"+one+"34", behind)
	}
}

// P2.1: Lead of very long texts.
func TestLeadOfVeryLongTexts(t *testing.T) {
	for c := byte('0'); c <= '9'; c++ {
		long := strings.Repeat(string([]byte{c}), 1<<20)
		wantLead(t, long, 1<<20)
		wantLead(t, long+"x"+long, 1<<20)
		wantLead(t, "x"+long, 0)
	}
}

// P2.2: what is written is read as the same number.
func TestNumbersThereAndBack(t *testing.T) {
	for _, n := range spread() {
		s, ok := Put(n)
		if !ok {
			t.Fatalf("Put(%d) is refused", n)
		}
		wantGet(t, s, n, true)
		wantLead(t, s, len(s))
	}
}

// P2.2: what is read is written as the same text, and nothing else is read.
func TestTextsThereAndBack(t *testing.T) {
	texts := counted(100001)
	for _, n := range spread() {
		s := big.NewInt(int64(n)).String()
		texts = append(texts, s, "0"+s, s+"0", s+"00", "-"+s, s+" ", s+s)
	}
	for _, s := range texts {
		if n, ok := Get(s); ok {
			wantPut(t, n, s, true)
		}
	}
	for _, n := range spread() {
		wantGet(t, big.NewInt(int64(n)).String(), n, true)
	}
}

// spread answers numbers all over what is written: each power of two and of ten, those around them, and some a long way apart.
func spread() []int {
	l := []int{0, last}
	for _, base := range []int{2, 10} {
		for n := 1; n <= last; n *= base {
			l = append(l, n-1, n)
			if n < last {
				l = append(l, n+1)
			}
		}
	}
	for n := 0; n <= last; n += 123456789012 {
		l = append(l, n, last-n)
	}
	return l
}

// Rules 4 and 6: a reading that was given up leaves nothing behind.
func TestGetAfterARefusedText(t *testing.T) {
	for _, s := range []string{"", "x", "12x", "007", "9007199254740993"} {
		wantGet(t, s, 0, false)
		wantGet(t, "258", 258, true)
		wantGet(t, s, 0, false)
	}
}
