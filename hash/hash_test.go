package hash

import (
	"crypto/sha1"
	"encoding/hex"
	"slices"
	"strings"
	"testing"
	"unsafe"
)

// library is the answer to hold Sum against.
func library(s string) string {
	sum := sha1.Sum([]byte(s))
	return hex.EncodeToString(sum[:])
}

// P1.1: the examples that are published with the standard.
func TestSumOfPublishedExamples(t *testing.T) {
	for _, q := range []struct{ text, want string }{
		{"", "da39a3ee5e6b4b0d3255bfef95601890afd80709"},
		{"abc", "a9993e364706816aba3e25717850c26c9cd0d89d"},
		{"abcdbcdecdefdefgefghfghighijhijkijkljklmklmnlmnomnopnopq", "84983e441c3bd26ebaae4aa1f95129e5e54670f1"},
		{"abcdefghbcdefghicdefghijdefghijkefghijklfghijklmghijklmnhijklmnoijklmnopjklmnopqklmnopqrlmnopqrsmnopqrstnopqrstu", "a49b2446a02c645bf419f995b67091253a04a259"},
		{strings.Repeat("a", 1000000), "34aa973cd4c4daa4f61eeb2bdbad27316534016f"},
	} {
		if got := Sum(q.text); got != q.want {
			t.Errorf("Sum of %d bytes: %s, want %s", len(q.text), got, q.want)
		}
	}
}

// P1.1: every length around the ends of blocks, where the padding takes one block or two.
func TestSumOfEveryLength(t *testing.T) {
	var text []byte
	for n := range 4*blockSize + 2 {
		s := string(text)
		if got := Sum(s); got != library(s) {
			t.Fatalf("Sum of %d bytes: %s, want %s", n, got, library(s))
		}
		text = append(text, byte(n*151+7))
	}
}

// P1.1: the length in bits fills eight bytes, so that of a text of 2^29 bytes doesn't wrap round.
func TestPadOfManyBits(t *testing.T) {
	for _, q := range []struct {
		total uint64
		want  string
	}{
		{0, "\x00\x00\x00\x00\x00\x00\x00\x00"},
		{1 << 29, "\x00\x00\x00\x01\x00\x00\x00\x00"},
		{1<<31 - 64, "\x00\x00\x00\x03\xff\xff\xfe\x00"},
	} {
		want := "\x80" + strings.Repeat("\x00", 55) + q.want
		if got := pad("", q.total); got != want {
			t.Errorf("%d bytes: %q, want %q", q.total, got, want)
		}
	}
}

// P1.1: texts are bytes, whatever they are.
func TestSumOfAnyBytes(t *testing.T) {
	for b := range 256 {
		for _, n := range []int{1, 55, 56, 63, 64, 65} {
			s := strings.Repeat(string([]byte{byte(b)}), n)
			if got := Sum(s); got != library(s) {
				t.Fatalf("Sum of %d bytes %#x: %s, want %s", n, b, got, library(s))
			}
		}
	}
}

// P1.2: every byte at every place is a digit, or makes it no name.
func TestIsOfEveryByte(t *testing.T) {
	good := []byte(Sum("ammonite"))
	for at := range good {
		for b := range 256 {
			turned := slices.Clone(good)
			turned[at] = byte(b)
			want := '0' <= b && b <= '9' || 'a' <= b && b <= 'f'
			if got := Is(string(turned)); got != want {
				t.Fatalf("byte %#x at %d: %v, want %v", b, at, got, want)
			}
		}
	}
}

// P1.2: 40 digits, no more and no less.
func TestIsOfEveryLength(t *testing.T) {
	for n := range 100 {
		if got := Is(strings.Repeat("a", n)); got != (n == 40) {
			t.Errorf("%d digits: %v", n, got)
		}
	}
	if Is(strings.Repeat("é", 40)) || Is(strings.Repeat("é", 20)) {
		t.Error("letters beyond ASCII are no digits")
	}
}

// P1.2: just one, alike ones being one; 4 bytes at least.
func TestPrefix(t *testing.T) {
	first, second := Sum(""), Sum("abc")
	names := []string{first, "abcd", second, "abcde", first, "wxyz\xff", "wxy", ""}
	for _, q := range []struct {
		p, want string
		ok      bool
	}{
		{first[:4], first, true},
		{first, first, true},
		{second[:39], second, true},
		{first + "0", "", false},
		{first[:3], "", false},
		{"abcd", "", false},
		{"abcde", "abcde", true},
		{"abcdef", "", false},
		{"wxyz", "wxyz\xff", true},
		{"wxyz\xff", "wxyz\xff", true},
		{"wxyz\xfe", "", false},
		{"wxy", "", false},
		{"bcde", "", false},
		{strings.ToUpper(first[:4]), "", false},
		{"", "", false},
	} {
		if got, ok := Prefix(names, q.p); got != q.want || ok != q.ok {
			t.Errorf("Prefix %q: %q %v, want %q %v", q.p, got, ok, q.want, q.ok)
		}
	}
}

// P1.2, R4: the order of the names plays no part.
func TestPrefixInAnyOrder(t *testing.T) {
	for _, names := range [][]string{
		{"abcd1", "abcd1", "abcd2"},
		{"abcd1", "abcd2", "abcd1"},
		{"abcd2", "abcd1", "abcd1"},
	} {
		if got, ok := Prefix(names, "abcd"); got != "" || ok {
			t.Errorf("%q: %q %v", names, got, ok)
		}
		if got, ok := Prefix(names, "abcd2"); got != "abcd2" || !ok {
			t.Errorf("%q: %q %v", names, got, ok)
		}
	}
}

// R4: no names, however they are written, have no prefix.
func TestPrefixOfNoNames(t *testing.T) {
	for _, names := range [][]string{nil, {}, {""}, {"abc"}} {
		for _, p := range []string{"", "abc", "abcd"} {
			if got, ok := Prefix(names, p); got != "" || ok {
				t.Errorf("%q, %q: %q %v", names, p, got, ok)
			}
		}
	}
}

// R2, R5: the list is as it was, and its spare room is neither read nor written.
func TestPrefixLeavesTheList(t *testing.T) {
	room := []string{"abcd1", "ffff2", "abcd3", "eeee4"}
	kept := slices.Clone(room)
	if got, ok := Prefix(room[:2], "abcd"); got != "abcd1" || !ok {
		t.Errorf("%q %v", got, ok)
	}
	if got, ok := Prefix(room[:2], "eeee"); got != "" || ok {
		t.Errorf("%q %v", got, ok)
	}
	if !slices.Equal(room, kept) {
		t.Errorf("changed: %q", room)
	}
}

// R2: the answer is new memory.
func TestPrefixSharesNoMemory(t *testing.T) {
	name := Sum("abc")
	got, ok := Prefix([]string{name}, name[:4])
	if !ok || unsafe.StringData(got) == unsafe.StringData(name) {
		t.Error("the answer is the argument's memory")
	}
}

// The section 'Runs'.
func TestRuns(t *testing.T) {
	if got := Sum(""); got != "da39a3ee5e6b4b0d3255bfef95601890afd80709" {
		t.Error(got)
	}
	if got := Sum("abc"); !strings.HasPrefix(got, "a9993e36") {
		t.Error(got)
	}
	for _, s := range []string{"", "abc", "\x00", strings.Repeat("z", 1000)} {
		if !Is(Sum(s)) {
			t.Errorf("the Sum of %q is no name", s)
		}
	}
}
