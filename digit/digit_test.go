package digit

import (
	"math"
	"strconv"
	"strings"
	"testing"

	"ammonite/api"
)

// beyond are numbers that have no text.
var beyond = []int{-1, -63, -64, math.MinInt, api.MaxNumber + 1, 1 << 31, 1 << 32, 1<<32 + 1, 1 << 36, math.MaxInt}

// numbers are some of those that have one: the small ones, and those around every power of two and of ten.
func numbers() []int {
	var list []int
	for n := range 5000 {
		list = append(list, n)
	}
	for _, base := range []int{2, 10} {
		for power := base; power <= api.MaxNumber; power *= base {
			list = append(list, power-1, power)
			if power < api.MaxNumber {
				list = append(list, power+1)
			}
		}
	}
	return list
}

// byDivision is the text to hold Put against.
func byDivision(n int) string {
	text := ""
	for {
		text = api.Digits[n%64:n%64+1] + text
		n /= 64
		if n == 0 {
			return text
		}
	}
}

// P2.1: each digit has its place in api.Digits.
func TestPutOfOneDigit(t *testing.T) {
	for n := range 64 {
		if got := Put(n); got != api.Digits[n:n+1] {
			t.Errorf("Put(%d): %q", n, got)
		}
	}
}

// P2.1: the highest digit first, as few as can be.
func TestPut(t *testing.T) {
	for n, want := range map[int]string{
		0: "0", 63: "~", 64: "10", 65: "11", 127: "1~", 128: "20", 4095: "~~", 4096: "100", 4097: "101",
		1<<18 - 1: "~~~", 1 << 18: "1000", 1 << 24: "10000", 1<<30 - 1: "~~~~~", 1 << 30: "100000",
	} {
		if got := Put(n); got != want {
			t.Errorf("Put(%d): %q, want %q", n, got, want)
		}
	}
	for _, n := range numbers() {
		if got := Put(n); got != byDivision(n) {
			t.Fatalf("Put(%d): %q, want %q", n, got, byDivision(n))
		}
	}
}

// P2.1: numbers below 0 and above MaxNumber have no text.
func TestPutOfNoNumber(t *testing.T) {
	for _, n := range beyond {
		if got := Put(n); got != "" {
			t.Errorf("Put(%d): %q", n, got)
		}
	}
}

// P2.2: what was put is read, wherever it stands, up to what is no digit.
func TestReadOfPut(t *testing.T) {
	for _, n := range numbers() {
		for _, before := range []string{"", "x", "\xff\x00,"} {
			for _, behind := range []string{"", ",", " 7", "\x80", "é"} {
				text := Put(n)
				got, next, ok := Read(before+text+behind, len(before))
				if got != n || next != len(before)+len(text) || !ok {
					t.Fatalf("%q %q %q: %d %d %v", before, text, behind, got, next, ok)
				}
			}
		}
	}
}

// P2.2: every byte is a digit of its value, or ends the number.
func TestReadOfEveryByte(t *testing.T) {
	for b := range 256 {
		s := string([]byte{byte(b)})
		value := strings.Index(api.Digits, s)
		n, next, ok := Read(s, 0)
		if value >= 0 && (n != value || next != 1 || !ok) || value < 0 && (n != 0 || next != 0 || ok) {
			t.Errorf("%q: %d %d %v", s, n, next, ok)
		}
		n, next, ok = Read("1"+s, 0)
		if value >= 0 && (n != 64+value || next != 2 || !ok) || value < 0 && (n != 1 || next != 1 || !ok) {
			t.Errorf("%q: %d %d %v", "1"+s, n, next, ok)
		}
	}
}

// P2.2: the edges, and what is refused.
func TestRead(t *testing.T) {
	for _, q := range []struct {
		s       string
		at      int
		n, next int
		ok      bool
	}{
		{"0", 0, 0, 1, true},
		{"0,1", 0, 0, 1, true},
		{"10", 1, 0, 2, true},
		{"00", 1, 0, 2, true},
		{"~~", 1, 63, 2, true},
		{"100000", 0, api.MaxNumber, 6, true},
		{"@100000@", 1, api.MaxNumber, 7, true},
		{"00", 0, 0, 0, false},
		{"01", 0, 0, 0, false},
		{"0000000000000000", 0, 0, 0, false},
		{"0100000", 0, 0, 0, false},
		{"100001", 0, 0, 0, false},
		{"200000", 0, 0, 0, false},
		{"1000000", 0, 0, 0, false},
		{"1" + strings.Repeat("0", 11), 0, 0, 0, false},
		{"1" + strings.Repeat("0", 1000), 0, 0, 0, false},
		{"1" + strings.Repeat("0", 11) + "1", 0, 0, 0, false},
		{strings.Repeat("~", 100), 0, 0, 0, false},
		{strings.Repeat("~", 100), 95, 1<<30 - 1, 100, true},
		{"", 0, 0, 0, false},
		{"", -1, 0, 0, false},
		{"", 1, 0, 0, false},
		{"12", 2, 0, 0, false},
		{"12", 3, 0, 0, false},
		{"12", -1, 0, 0, false},
		{"12", math.MinInt, 0, 0, false},
		{"12", math.MaxInt, 0, 0, false},
		{" 12", 0, 0, 0, false},
		{"-12", 0, 0, 0, false},
		{"+12", 0, 0, 0, false},
		{"1é", 1, 0, 0, false},
	} {
		if n, next, ok := Read(q.s, q.at); n != q.n || next != q.next || ok != q.ok {
			t.Errorf("Read(%q, %d): %d %d %v", q.s, q.at, n, next, ok)
		}
	}
}

// P2.3: decimals as they are written everywhere, and read again.
func TestDec(t *testing.T) {
	for _, n := range numbers() {
		want := strconv.Itoa(n)
		if got := Dec(n); got != want {
			t.Fatalf("Dec(%d): %q", n, got)
		}
		if got, ok := ReadDec(want); got != n || !ok {
			t.Fatalf("ReadDec(%q): %d %v", want, got, ok)
		}
	}
}

// P2.3: numbers below 0 and above MaxNumber have no text, and their decimals are none.
func TestDecOfNoNumber(t *testing.T) {
	for _, n := range beyond {
		if got := Dec(n); got != "" {
			t.Errorf("Dec(%d): %q", n, got)
		}
		if got, ok := ReadDec(strconv.Itoa(n)); got != 0 || ok {
			t.Errorf("ReadDec(%d): %d %v", n, got, ok)
		}
	}
}

// P2.3: a text that Dec never answers is not read, not even "", which it answers of no number.
func TestReadDecOfNoDec(t *testing.T) {
	for _, s := range []string{
		"", "00", "01", "010", "000000000001", "-0", "-1", "+1", " 1", "1 ", "1\n", "1,2", "1_0", "1e1", "0x1", "A", "a", "1a", "a1",
		"1073741825", "1073741830", "10737418240", "4294967296", "4294967297", "18446744073709551616", "18446744073709551617", "99999999999999999999999999",
		"\xff", "1\x00", "١",
	} {
		if got, ok := ReadDec(s); got != 0 || ok {
			t.Errorf("ReadDec(%q): %d %v", s, got, ok)
		}
	}
}

// P2.3: every byte is a decimal, or makes it none.
func TestReadDecOfEveryByte(t *testing.T) {
	for b := range 256 {
		s := string([]byte{byte(b)})
		value := strings.Index("0123456789", s)
		if n, ok := ReadDec(s); ok != (value >= 0) || n != max(value, 0) {
			t.Errorf("ReadDec(%q): %d %v", s, n, ok)
		}
		if n, ok := ReadDec("7" + s); ok != (value >= 0) || ok && n != 70+value || !ok && n != 0 {
			t.Errorf("ReadDec(%q): %d %v", "7"+s, n, ok)
		}
	}
}

// The section 'Runs'.
func TestRuns(t *testing.T) {
	if got := Put(64); got != "10" {
		t.Error(got)
	}
	if n, next, ok := Read("x12", 1); n != 66 || next != 3 || !ok {
		t.Error(n, next, ok)
	}
	if got := Dec(10); got != "10" {
		t.Error(got)
	}
	if n, ok := ReadDec("010"); n != 0 || ok {
		t.Error(n, ok)
	}
}
