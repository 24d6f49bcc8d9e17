package squeeze

import (
	"math"
	"math/rand"
	"regexp"
	"strconv"
	"strings"
	"testing"
	"unsafe"
)

// sizeForm is a size as the chapter writes it, of at most ten digits.
var sizeForm = regexp.MustCompile(`^(0|[1-9][0-9]{0,9});`)

// byWords is the answer to hold Expand against: all pieces are read first, and what is wrong is asked of all of it.
func byWords(s string, most int) (string, bool) {
	m := sizeForm.FindStringSubmatch(s)
	if m == nil {
		return "", false
	}
	size, err := strconv.Atoi(m[1])
	if err != nil || size > 1<<30 || size > most {
		return "", false
	}
	var text []byte
	b := []byte(s[len(m[0]):])
	for len(b) > 0 {
		if b[0] < 128 {
			n := int(b[0]) + 1
			if len(b) < 1+n {
				return "", false
			}
			text = append(text, b[1:1+n]...)
			b = b[1+n:]
			continue
		}
		if len(b) < 3 {
			return "", false
		}
		from := len(text) - (256*int(b[1]) + int(b[2]))
		if from < 0 || from == len(text) {
			return "", false
		}
		for range int(b[0]) - 125 {
			text = append(text, text[from])
			from++
		}
		b = b[3:]
	}
	if len(text) != size {
		return "", false
	}
	return string(text), true
}

// one is a text of one byte.
func one(b int) string { return string([]byte{byte(b)}) }

// plain is a plain piece of s.
func plain(s string) string { return one(len(s)-1) + s }

// again is a copy of n bytes, from as far back.
func again(n, back int) string { return one(n+125) + one(back/256) + one(back%256) }

// of is a size around pieces.
func of(size int, pieces ...string) string {
	return strconv.Itoa(size) + ";" + strings.Join(pieces, "")
}

// text of n bytes, of few letters if kinds is small.
func text(r *rand.Rand, n, kinds int) string {
	b := make([]byte, n)
	for i := range b {
		b[i] = byte(r.Intn(kinds))
	}
	return string(b)
}

// bait has pieces of so many bytes that stood already, each behind a byte that didn't stand ahead of it: what a copy saves is lost again if it is taken too soon.
func bait(r *rand.Rand, n, size int) string {
	s := []byte(text(r, 2000, 256))
	for len(s) < n {
		from := r.Intn(2000 - size)
		s = append(append(s, s[from:from+size]...), byte(r.Intn(256)))
	}
	return string(s[:n])
}

// texts to press: short and long, alike within, and not at all.
func texts() []string {
	r := rand.New(rand.NewSource(5))
	fox := "The quick brown fox. "
	list := []string{
		"", "a", ";", "\x00", "\x80\xff", "abc", "abcabc", "abcabcabc", "aaa", "aaaa", "3;\x02abc", fox, strings.Repeat(fox, 9), strings.Repeat(fox, 2000),
		strings.Repeat("ab", 30000), strings.Repeat(strings.Repeat("a", 129)+"b", 461), strings.Repeat(strings.Repeat("a", 131)+"bc", 451), text(r, maxText, 256), text(r, maxText, 2), text(r, maxText, 5),
	}
	for _, n := range []int{127, 128, 129, 130, 131, 133, 134, 255, 256, 257, 300, 384, 385, 999, 1000, 9999, 10000, maxText - 1, maxText} {
		s := text(r, n, 256)
		list = append(list, s, s[:n/2]+s[:n/2], s[:n-n/9]+s[:n/9], strings.Repeat("z", n), bait(r, n, 3), bait(r, n, 4), bait(r, n, 5), bait(r, n, 130), bait(r, n, 131))
	}
	for range 1500 {
		s := text(r, r.Intn(200), []int{1, 2, 3, 256}[r.Intn(4)])
		for range r.Intn(6) {
			from := r.Intn(len(s) + 1)
			s += s[from:from+r.Intn(len(s)-from+1)] + text(r, r.Intn(9), 256)
		}
		list = append(list, s)
	}
	return list
}

// P4.1: what pressed texts make.
func TestExpand(t *testing.T) {
	fox := strings.Repeat("The quick brown fox. ", 7)[:130]
	for i, q := range []struct{ s, want string }{
		{"0;", ""},
		{"1;\x00a", "a"},
		{"3;\x02abc", "abc"},
		{"3;\x00a\x00b\x00c", "abc"},
		{"3;\x02;;;", ";;;"},
		{"2;\x01\x80\x00", "\x80\x00"},
		{of(128, plain(fox[:128])), fox[:128]},
		{of(129, plain(fox[:128]), plain(fox[128:129])), fox[:129]},
		{of(6, plain("abc"), again(3, 3)), "abcabc"},
		{of(6, plain("abc"), again(3, 2)), "abcbcb"},
		{of(6, plain("abc"), again(3, 1)), "abcccc"},
		{of(7, plain("abc"), again(4, 3)), "abcabca"},
		{of(131, plain("a"), again(130, 1)), strings.Repeat("a", 131)},
		{of(260, plain(fox[:128]), plain(fox[128:]), again(130, 130)), fox + fox},
		{of(10, plain("abcd"), again(3, 4), again(3, 7)), "abcdabcabc"},
		{of(9, plain("ab"), again(3, 2), plain("x"), again(3, 3)), "ababaxbax"},
	} {
		if got, ok := Expand(q.s, len(q.want)); got != q.want || !ok {
			t.Errorf("%d: %q %v, want %q", i, got, ok, q.want)
		}
	}
}

// P4.1: the two bytes that say how far back, the high one first, up to the greatest that they can say.
func TestExpandFromFarBack(t *testing.T) {
	r := rand.New(rand.NewSource(6))
	made := text(r, 65540, 256)
	pieces := ""
	for s := made; s != ""; s = s[min(len(s), 128):] {
		pieces += plain(s[:min(len(s), 128)])
	}
	for _, back := range []int{1, 2, 3, 254, 255, 256, 257, 511, 512, 513, 32767, 32768, 65279, 65280, 65534, 65535} {
		from := len(made) - back
		want := made + (made[from:] + made[from:] + made[from:] + made[from:])[:4]
		if got, ok := Expand(of(len(want), pieces, again(4, back)), len(want)); got != want || !ok {
			t.Errorf("%d back: %d bytes %v", back, len(got), ok)
		}
	}
}

// P4.1: every first byte of a piece, and how many bytes it says.
func TestExpandOfEveryFirstByte(t *testing.T) {
	for first := range 256 {
		size, behind := first+1, strings.Repeat("a", first+1)
		if first >= 128 {
			size, behind = first-125, "\x00\x01"
		}
		for more := -2; more <= 2; more++ {
			s := of(1+size+more, plain("a"), one(first), behind)
			want := strings.Repeat("a", 1+size)
			if more != 0 {
				want = ""
			}
			if got, ok := Expand(s, 200); got != want || ok != (more == 0) {
				t.Errorf("first byte %d, size %d: %q %v", first, 1+size+more, got, ok)
			}
		}
		cut := of(1+size, plain("a"), one(first), behind[1:])
		if got, ok := Expand(cut, 200); got != "" || ok {
			t.Errorf("first byte %d, a byte too few behind it: %q %v", first, got, ok)
		}
	}
}

// P4.2: a size above most, whatever that is.
func TestExpandAtMost(t *testing.T) {
	for s, size := range map[string]int{"0;": 0, "1;\x00a": 1, of(6, plain("abc"), again(3, 3)): 6, of(131, plain("a"), again(130, 1)): 131} {
		for _, most := range []int{math.MinInt, -1 << 31, -1, 0, 1, 2, 5, 6, 7, 130, 131, 132, 1 << 31, math.MaxInt} {
			got, ok := Expand(s, most)
			if ok != (size <= most) || ok && len(got) != size || !ok && got != "" {
				t.Errorf("%q, at most %d: %q %v", s, most, got, ok)
			}
		}
	}
}

// P4.2: texts that aren't pressed ones.
func TestExpandOfWrongText(t *testing.T) {
	long := plain(strings.Repeat("x", 128))
	for _, s := range []string{
		"", ";", "0", "3", "abc", "\x02abc", ";\x02abc", "3\x02abc", "3:\x02abc", "03;\x02abc", "00;", "000;", "+3;\x02abc", "-0;", " 3;\x02abc", "3 ;\x02abc", "3\n;\x02abc", "3.0;\x02abc", "0x3;\x02abc", "3_;", "1_0;", "1e1;", "x;\x02abc", "\x00;", "٣;\x02abc",
		"1073741824;", "1073741824;\x02abc", "1073741825;", "1073741825;\x02abc", "4294967299;\x02abc", "18446744073709551619;\x02abc", strings.Repeat("9", 999) + ";", strings.Repeat("0", 999) + "3;\x02abc",
		"1;", "3;", "0;;", "0; ", "0;\x00", "0;\x00a", "0;\x80\x00\x01", "0;\x7f", "0;\xff",
		"3;\x02", "3;\x02a", "3;\x02ab", "3;\x03abc", "2;\x02abc", "4;\x02abc", "3;\x02abc\x00", "3;\x02abcd", "3;\x02abc\x00d", "3;\x01ab",
		of(6, plain("abc"), "\x80"), of(6, plain("abc"), "\x80\x00"), of(6, plain("abc"), again(3, 3), "\x00"), of(6, plain("abc"), again(3, 3), "\x80\x00"), of(6, plain("abc"), again(3, 3), again(3, 3)),
		of(6, plain("abc"), again(3, 0)), of(6, plain("abc"), again(3, 4)), of(6, plain("abc"), again(3, 256)), of(6, plain("abc"), again(3, 259)), of(6, plain("abc"), again(3, 65535)), of(6, plain("abc"), again(4, 3)), of(5, plain("abc"), again(3, 3)), of(7, plain("abc"), again(3, 3)),
		of(3, again(3, 0)), of(3, again(3, 1)), of(130, again(130, 1)), of(6, again(3, 3), plain("abc")),
		of(127, long), of(129, long), of(131, long, again(4, 1)), of(131, long, again(3, 129)), of(131, long, plain("abcd")), of(256, long, long, plain("x")),
	} {
		if got, ok := Expand(s, math.MaxInt); got != "" || ok {
			t.Errorf("%q: %q %v", s, got, ok)
		}
	}
}

// P4.2, R1: a size that is only claimed takes no room.
func TestExpandOfClaimedSize(t *testing.T) {
	for range 20000 {
		if got, ok := Expand("1073741824;\x00a\xff\x00\x01", math.MaxInt); got != "" || ok {
			t.Fatal(len(got), ok)
		}
	}
}

// P4.2: pressed texts with a byte turned, left out or put in, and their beginnings: just those that the chapter lets pass.
func TestExpandOfTurnedText(t *testing.T) {
	hold := func(s string) {
		for _, most := range []int{6, 400} {
			want, wanted := byWords(s, most)
			if got, ok := Expand(s, most); got != want || ok != wanted {
				t.Fatalf("%q, at most %d: %q %v, want %q %v", s, most, got, ok, want, wanted)
			}
		}
	}
	for _, s := range []string{
		"0;", "1;\x00a", "3;\x02abc", of(6, plain("abc"), again(3, 3)), of(8, plain("abc"), again(4, 2), plain("!")), of(10, plain("00"), again(8, 1)), Press(strings.Repeat("0", 262)), Press(strings.Repeat("abcde;", 9)),
	} {
		for k := range len(s) + 1 {
			hold(s[:k])
			hold(s[k:])
			for b := range 256 {
				hold(s[:k] + one(b) + s[k:])
				if k < len(s) {
					hold(s[:k] + one(b) + s[k+1:])
				}
			}
		}
	}
	r := rand.New(rand.NewSource(7))
	few := "\x00\x00\x01\x02\x03\x80\x81\x82;0"
	right := 0
	for range 300000 {
		s := of(r.Intn(12))
		for range r.Intn(12) {
			s += few[r.Intn(len(few)):][:1]
		}
		hold(s)
		if _, ok := byWords(s, 400); ok {
			right++
		}
	}
	if right < 1000 {
		t.Error("hardly one was right:", right)
	}
}

// P4.3: what is pressed is a pressed text of the size, and makes the text again.
func TestPress(t *testing.T) {
	for _, s := range texts() {
		p := Press(s)
		if got, ok := Expand(p, len(s)); got != s || !ok {
			t.Fatalf("%d bytes: %d %v", len(s), len(got), ok)
		}
		if got, ok := Expand(p, len(s)-1); got != "" || ok {
			t.Fatalf("%d bytes, at most one less: %d %v", len(s), len(got), ok)
		}
		if len(s) < 2000 {
			if got, ok := byWords(p, len(s)); got != s || !ok {
				t.Fatalf("%q: %q %v", p, got, ok)
			}
		}
		if Press(s) != p {
			t.Fatalf("%d bytes: not the same twice", len(s))
		}
	}
}

// P4.3: all short texts of few letters.
func TestPressOfAllShortTexts(t *testing.T) {
	level := []string{""}
	for n := range 13 {
		var next []string
		for _, s := range level {
			p := Press(s)
			if got, ok := byWords(p, n); got != s || !ok || len(p) > n+7 {
				t.Fatalf("%q: %q: %q %v", s, p, got, ok)
			}
			next = append(next, s+"a", s+"b")
		}
		level = next
	}
}

// P4.3: how long it is at most.
func TestPressIsShort(t *testing.T) {
	for i, s := range texts() {
		if most := len(s) + len(s)/128 + 1 + 6; len(Press(s)) > most {
			t.Errorf("%d: %d bytes of %d, at most %d", i, len(Press(s)), len(s), most)
		}
	}
	// The pieces that a copy could be of stood already, but none of them makes up for the bytes that stand as they are.
	r := rand.New(rand.NewSource(8))
	for n := 2000; n <= maxText; n += 2900 {
		for size := 3; size < 6; size++ {
			if s := bait(r, n, size); len(Press(s)) > n+n/128+1+len(strconv.Itoa(n))+1 {
				t.Errorf("%d, pieces of %d: %d bytes", n, size, len(Press(s)))
			}
		}
	}
}

// P4.3: one byte, many times.
func TestPressOfOneByte(t *testing.T) {
	hold := func(n, b int) {
		s := strings.Repeat(one(b), n)
		p := Press(s)
		if got, ok := Expand(p, n); got != s || !ok || len(p) > 12+3*(n/130) {
			t.Fatalf("byte %d, %d times: %d bytes, at most %d: %v", b, n, len(p), 12+3*(n/130), ok)
		}
	}
	for n := 100; n < 1200; n++ {
		for _, b := range []int{0, 'a', 255} {
			hold(n, b)
		}
	}
	for b := range 256 {
		for _, n := range []int{100, 130, 133, 134, 10000} {
			hold(n, b)
		}
	}
	for n := 9800; n < 10200; n++ {
		hold(n, 'a')
	}
	for n := maxText - 300; n <= maxText; n++ {
		hold(n, 'a')
	}
}

// P4.3: what repeats is short.
func TestPressOfWhatRepeats(t *testing.T) {
	r := rand.New(rand.NewSource(9))
	for _, period := range []int{2, 3, 7, 21, 100, 255, 256, 257, 5000, 29999, 30000} {
		once := text(r, period, 256)
		s := strings.Repeat(once, maxText/period)
		copies := (len(s) - period + maxCopy - 1) / maxCopy
		if most := 6 + period + period/128 + 1 + 3*copies; len(Press(s)) > most {
			t.Errorf("every %d bytes: %d, at most %d", period, len(Press(s)), most)
		}
	}
}

// P4.3: texts of more than 60000 bytes.
func TestPressOfLongText(t *testing.T) {
	for _, n := range []int{60001, 60002, 65536, 1 << 20} {
		for _, s := range []string{"a", "\x00"} {
			if p := Press(strings.Repeat(s, n)); p != "" {
				t.Errorf("%d bytes: %q", n, p)
			}
		}
	}
	if Press(strings.Repeat("a", 60000)) == "" {
		t.Error("60000 bytes have one")
	}
}

// P4.3: what is not alike stands as it is, and a copy is taken where it is none the longer.
func TestPressOfKnownTexts(t *testing.T) {
	for s, want := range map[string]string{
		"": "0;", "a": "1;\x00a", "abc": "3;\x02abc", "abcabc": "6;\x05abcabc", "abcdabcd": of(8, plain("abcd"), again(4, 4)), "aaaaa": of(5, plain("a"), again(4, 1)), "abcdeabcdbcd": of(12, plain("abcde"), again(4, 5), again(3, 3)),
	} {
		if p := Press(s); p != want {
			t.Errorf("%q: %q, want %q", s, p, want)
		}
	}
}

// R2: what Expand answers is no piece of what it was given.
func TestExpandAnswersNewMemory(t *testing.T) {
	s := of(9, plain("new bytes"))
	got, ok := Expand(s, 9)
	if got != "new bytes" || !ok || unsafe.StringData(got) == unsafe.StringData(s[3:]) {
		t.Error(got, ok)
	}
}

// The section 'Runs'.
func TestRuns(t *testing.T) {
	if got, ok := Expand("6;\x02abc\x80\x00\x03", 6); got != "abcabc" || !ok {
		t.Error(got, ok)
	}
}
