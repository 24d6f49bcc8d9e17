package delta

import (
	"encoding/binary"
	"math/rand"
	"regexp"
	"strings"
	"testing"
	"unsafe"

	"ammonite/api"
	"ammonite/digit"
)

// wordSum is the number to hold Check against: the words are read whole.
func wordSum(s string) int {
	b := append([]byte(s), 0, 0, 0)
	var sum uint32
	for ; len(b) >= 4; b = b[4:] {
		sum += binary.BigEndian.Uint32(b)
	}
	return int(sum % (1 << 30))
}

// commands of a delta, one after the other, as the chapter writes them.
var (
	headForm  = regexp.MustCompile(`^(0|[1-9A-Z_a-z~][0-9A-Z_a-z~]{0,5})\n`)
	copyForm  = regexp.MustCompile(`^([1-9A-Z_a-z~][0-9A-Z_a-z~]{0,5})@(0|[1-9A-Z_a-z~][0-9A-Z_a-z~]{0,5}),`)
	plainForm = regexp.MustCompile(`^([1-9A-Z_a-z~][0-9A-Z_a-z~]{0,5}):`)
	endForm   = regexp.MustCompile(`^(0|[1-9A-Z_a-z~][0-9A-Z_a-z~]{0,5});$`)
)

// value of digits that a form has found; -1 if they are above MaxNumber.
func value(digits string) int {
	n := 0
	for _, c := range []byte(digits) {
		n = 64*n + strings.IndexByte(api.Digits, c)
	}
	if n > api.MaxNumber {
		return -1
	}
	return n
}

// byForms is the answer to hold Apply against.
func byForms(source, d string) (string, bool) {
	m := headForm.FindStringSubmatch(d)
	if m == nil || value(m[1]) < 0 || value(m[1]) > api.MaxArtifact {
		return "", false
	}
	size, target := value(m[1]), ""
	d = d[len(m[0]):]
	for {
		if m = endForm.FindStringSubmatch(d); m != nil {
			ok := len(target) == size && wordSum(target) == value(m[1])
			if !ok {
				target = ""
			}
			return target, ok
		} else if m = copyForm.FindStringSubmatch(d); m != nil {
			n, place := value(m[1]), value(m[2])
			if n < 0 || place < 0 || n > size-len(target) || place+n > len(source) {
				return "", false
			}
			target += source[place : place+n]
			d = d[len(m[0]):]
		} else if m = plainForm.FindStringSubmatch(d); m != nil {
			n := value(m[1])
			d = d[len(m[0]):]
			if n < 0 || n > size-len(target) || n > len(d) {
				return "", false
			}
			target += d[:n]
			d = d[n:]
		} else {
			return "", false
		}
	}
}

// of is a delta of a target's size and Check around commands.
func of(target, commands string) string {
	return digit.Put(len(target)) + "\n" + commands + digit.Put(wordSum(target)) + ";"
}

// text of n bytes, of few letters if kinds is small.
func text(r *rand.Rand, n, kinds int) string {
	b := make([]byte, n)
	for i := range b {
		b[i] = byte(r.Intn(kinds))
	}
	return string(b)
}

// pairs of sources and targets: unlike, alike, pieces of one another, with bytes that commands are made of.
func pairs() [][2]string {
	r := rand.New(rand.NewSource(3))
	fox := strings.Repeat("The quick brown fox. ", 14)
	marks := "3@0,2:ab;\n0;"
	list := [][2]string{
		{"", ""}, {"", "a"}, {"a", ""}, {"a", "a"}, {"a", "b"}, {"ab", "ba"}, {fox, fox}, {fox, ""}, {"", fox},
		{fox, fox[1:]}, {fox, "x" + fox}, {fox, fox[:100] + "x" + fox[101:]}, {fox[:9], fox}, {fox, fox[:9]},
		{marks, marks}, {marks, strings.Repeat(marks, 20)}, {strings.Repeat(marks, 20), marks + "x" + marks},
		{strings.Repeat("\x00", 300), strings.Repeat("\x00", 300)}, {strings.Repeat("\xff", 300), strings.Repeat("\xff", 299) + "\n"},
		{strings.Repeat("ab", 150), strings.Repeat("ba", 150)}, {text(r, 9000, 256) + fox, fox},
	}
	for range 1500 {
		kinds := []int{1, 2, 3, 256}[r.Intn(4)]
		source := text(r, r.Intn(600), kinds)
		target := ""
		for range r.Intn(6) {
			from := r.Intn(len(source) + 1)
			target += source[from:from+r.Intn(len(source)-from+1)] + text(r, r.Intn(12), kinds)
		}
		list = append(list, [2]string{source, target[:min(len(target), api.MaxArtifact)]})
	}
	return list
}

// P3.1: words of four bytes, the first the highest, noughts behind the last, 32 bits, the lowest 30 of them.
func TestCheck(t *testing.T) {
	for s, want := range map[string]int{
		"": 0, "\x00": 0, "\x00\x00\x00\x01": 1, "\x00\x00\x01": 1 << 8, "\x00\x01": 1 << 16, "\x01": 1 << 24,
		"abc": 0x21626300, "abcd": 0x21626364, "abcde": 0x06626364, "\x00\x00\x00\x01\x00\x00\x00\x02": 3,
		"\x3f\xff\xff\xff": 1<<30 - 1, "\x40\x00\x00\x00": 0, "\x80\x00\x00\x05": 5, "\xff\xff\xff\xff": 1<<30 - 1,
		"\xff\xff\xff\xff\x00\x00\x00\x01": 0, "\x3f\xff\xff\xff\x00\x00\x00\x02": 1, "\x80\x00\x00\x00\x80\x00\x00\x07": 7,
	} {
		if got := Check(s); got != want {
			t.Errorf("Check(%q): %d, want %d", s, got, want)
		}
	}
	r := rand.New(rand.NewSource(1))
	for n := range 700 {
		s := text(r, n, 256)
		if got := Check(s); got != wordSum(s) {
			t.Fatalf("Check of %d bytes: %d, want %d", n, got, wordSum(s))
		}
	}
	if s := strings.Repeat("\xff", 1<<20); Check(s) != wordSum(s) {
		t.Error("a long text")
	}
}

// P3.2: what a delta makes.
func TestApply(t *testing.T) {
	source := "abcdefghij"
	for target, commands := range map[string]string{
		"": "", "a": "1@0,", "j": "1@9,", "abcdefghij": "A@0,", "abcxyz": "3@0,3:xyz", "xyzhij": "3:xyz3@7,",
		"abab": "2@0,2@0,", "aabbcc": "1:a2:ab3:bcc", "jihg": "1@9,1@8,1@7,1@6,", ";\n:": "3:;\n:", "0;": "2:0;",
		"1@0,": "4:1@0,", "\x00\xff": "2:\x00\xff", "9a9": "1:91@0,1:9",
	} {
		if got, ok := Apply(source, of(target, commands)); got != target || !ok {
			t.Errorf("%q: %q %v", commands, got, ok)
		}
	}
	far := strings.Repeat(".", 5000) + "end"
	if got, ok := Apply(far, of("end", "3@"+digit.Put(5000)+",")); got != "end" || !ok {
		t.Errorf("%q %v", got, ok)
	}
	big := strings.Repeat("x", api.MaxArtifact)
	for _, commands := range []string{digit.Put(len(big)) + "@0,", digit.Put(len(big)) + ":" + big, strings.Repeat("1@0,", len(big))} {
		if got, ok := Apply(big, of(big, commands)); got != big || !ok {
			t.Errorf("%q: %q %v", commands, got, ok)
		}
	}
}

// P3.2: what isn't a delta.
func TestApplyOfNoDelta(t *testing.T) {
	source := "abcdefghij"
	big := strings.Repeat("x", api.MaxArtifact+1)
	good := digit.Put(wordSum("abc")) + ";"
	for _, d := range []string{
		"", "\n", "0", "0\n", "0\n0", "0\n;", "0;", "0 \n0;", " 0\n0;", "00\n0;", "0\r\n0;", "0\n0;\n", "0\n00;", "0\n0;0;", "0\n0; ",
		"0\n1;", "3\n" + good, "3\n3@0,", "3\n3@0,0;", "3\n3@0," + good + "x", "3\n3@0," + good + good, "\n3@0," + good, "03\n3@0," + good,
		"4\n3@0," + good, "2\n3@0," + good, "100001\n3@0," + good, "100000\n3@0," + good, "3\n 3@0," + good, "3\n\n3@0," + good,
		of("abc", "0@0,3@0,"), of("abc", "3@0,0@0,"), of("abc", "0:3@0,"), of("abc", "3@0,0:"), of("", "0@0,"), of("", "0:"),
		of("abc", "4@0,"), of("abc", "2@0,"), of("abc", "3@0,1@3,"), of("abc", "3@0,1:d"), of("abc", "2@0,2:cd"), of("abc", "4:abcd"),
		of("hij", "3@8,"), of("hij", "3@A,"), of("hij", "3@100000,"), of("hij", "3@100001,"), of("abcdefghij.", "B@0,"), of("abc", "3:ab"),
		of("abc", "100000@0,"), of("abc", "100000:abc"), of("abc", "100001@0,"), of("abc", "100001:abc"),
		of("abc", "03@0,"), of("abc", "3@00,"), of("abc", "03:abc"), of("abc", "@0,"), of("abc", "3@,"), of("abc", ":abc"), of("abc", "3"),
		of("abc", "3@"), of("abc", "3@0"), of("abc", "3@0;"), of("abc", "3@0:"), of("abc", "3@0\n"), of("abc", "3@0 ,"), of("abc", "3@0,,"), of("abc", "3 @0,"),
		of("abc", "3x0,"), of("abc", "3\n3@0,"), of("abc", "-3@0,"), of("abc", "3@-1,"), of("abc", "3:abc "), of("abc", "3.abc"),
		of("abc", "3@0,")[:len(of("abc", "3@0,"))-2] + "x;", of("abc", "3:abd"), of("abc", "3@1,"),
		of(big, digit.Put(len(big))+":"+big), of(big, strings.Repeat("1:x", len(big))),
	} {
		if got, ok := Apply(source, d); got != "" || ok {
			t.Errorf("%q: %q %v", d, got, ok)
		}
	}
	if got, ok := Apply(big, of(big, digit.Put(len(big))+"@0,")); got != "" || ok {
		t.Error("a target above MaxArtifact", got, ok)
	}
}

// P3.2: deltas with a byte turned, left out or put in, and their beginnings: just those that the chapter's forms let pass.
func TestApplyOfTurnedDelta(t *testing.T) {
	r := rand.New(rand.NewSource(2))
	hold := func(source, d string) {
		want, wanted := byForms(source, d)
		if got, ok := Apply(source, d); got != want || ok != wanted {
			t.Fatalf("%q: %q %v, want %q %v", d, got, ok, want, wanted)
		}
	}
	letters := api.Digits + "@:,;\n\x00\xff "
	for _, source := range []string{"", "abc", "abcdefghijklmnopqrstuvwxyz"} {
		for _, d := range []string{of("", ""), of("abcxyz", "3@0,3:xyz"), of("cab", "1@2,2@0,"), of("\x00\x00", "1:\x001:\x00"), of("0000", "4:0000")} {
			hold(source, d)
			for k := range len(d) + 1 {
				hold(source, d[:k])
				for _, letter := range []byte(letters) {
					hold(source, d[:k]+string([]byte{letter})+d[k:])
					if k < len(d) {
						hold(source, d[:k]+string([]byte{letter})+d[k+1:])
					}
				}
			}
		}
	}
	few := "0123A@@::,,;\n"
	for range 200000 {
		d := "3\n"
		for range r.Intn(9) {
			d += string(few[r.Intn(len(few))])
		}
		hold("\x00\x00\x00\x00", d+"0;")
	}
}

// P3.3: what is made is a delta of the size, and makes the target again.
func TestMake(t *testing.T) {
	for _, p := range pairs() {
		d := Make(p[0], p[1])
		if got, ok := Apply(p[0], d); got != p[1] || !ok {
			t.Fatalf("%q %q: %q: %q %v", p[0], p[1], d, got, ok)
		}
		if got, ok := byForms(p[0], d); got != p[1] || !ok {
			t.Fatalf("%q %q: %q: %q %v by its forms", p[0], p[1], d, got, ok)
		}
		if n, ok := Size(d); n != len(p[1]) || !ok {
			t.Fatalf("%q: %d %v", d, n, ok)
		}
		if again := Make(p[0], p[1]); again != d {
			t.Fatalf("%q, then %q", d, again)
		}
	}
}

// P3.3: how long it is at most.
func TestMakeIsShort(t *testing.T) {
	for _, p := range pairs() {
		most := len(p[1]) + 20
		same := 0
		for same < min(len(p[0]), len(p[1])) && p[0][same] == p[1][same] {
			same++
		}
		if same >= 16 {
			most = min(most, len(p[1])-same+24)
		}
		if d := Make(p[0], p[1]); len(d) > most {
			t.Errorf("%q %q: %d bytes, at most %d", p[0], p[1], len(d), most)
		}
	}
}

// P3.3: every length of a shared beginning, with what is unlike behind it, in front of sources short and long.
func TestMakeOfSharedBeginning(t *testing.T) {
	r := rand.New(rand.NewSource(4))
	for same := range api.MaxArtifact + 1 {
		begin := text(r, same, 256)
		for _, rest := range []int{0, 1, 15, 63, 64, 65, api.MaxArtifact - same} {
			target := begin + text(r, rest, 256)
			target = target[:min(len(target), api.MaxArtifact)]
			// The same beginning stands further on once more, with a byte more: the longer one to find.
			for _, source := range []string{begin, begin + "." + text(r, 70, 256), begin + "." + text(r, 5000, 256) + target[:min(same+1, len(target))]} {
				most := len(target) + 20
				if same >= 16 {
					most = len(target) - same + 24
				}
				d := Make(source, target)
				if got, ok := Apply(source, d); got != target || !ok || len(d) > most {
					t.Fatalf("%d %d: %d bytes, at most %d: %v", same, rest, len(d), most, ok)
				}
			}
		}
	}
}

// P3.3: a target above MaxArtifact has none; a source may be of any length.
func TestMakeOfLongTexts(t *testing.T) {
	big := strings.Repeat("x", api.MaxArtifact)
	if d := Make(big, big); len(d) > 24 {
		t.Error(d)
	}
	for _, source := range []string{"", big, big + "x"} {
		if d := Make(source, big+"x"); d != "" {
			t.Error(d)
		}
	}
	if d := Make("", strings.Repeat("x", 1<<20)); d != "" {
		t.Error(d)
	}
	source := strings.Repeat("ab", 1<<19) + "needle in a haystack"
	target := "needle in a haystack"
	if d := Make(source, target); len(d) > 24 {
		t.Errorf("%q", d)
	}
	hard := strings.Repeat(strings.Repeat("a", 12)+"b", 1<<16)
	for _, target := range []string{strings.Repeat("aaaaaac", 42), strings.Repeat("a", 300)} {
		if got, ok := Apply(hard, Make(hard, target)); got != target || !ok {
			t.Error(got, ok)
		}
	}
}

// P3.3: what a command could not name is said plainly.
func TestMakeOfNothingAlike(t *testing.T) {
	for _, p := range [][2]string{{"", "xyz"}, {"abc", "xyz"}, {"x", "xyz"}} {
		if d := Make(p[0], p[1]); d != of("xyz", "3:xyz") {
			t.Errorf("%q", d)
		}
	}
	if d := Make("abc", ""); d != "0\n0;" {
		t.Errorf("%q", d)
	}
}

// P3.3: the number ahead of the first line feed.
func TestSize(t *testing.T) {
	for d, want := range map[string]int{
		"0\n": 0, "3\n": 3, "~\n": 63, "10\n": 64, "12\nabc": 66, "4h\n": 300, "4i\n": 301, "100000\n": api.MaxNumber, "3\n\n": 3, "3\n4\n": 3, "3\n\xff": 3,
	} {
		if n, ok := Size(d); n != want || !ok {
			t.Errorf("Size(%q): %d %v", d, n, ok)
		}
	}
	for _, d := range []string{"", "3", "\n", "\n3\n", "03\n", "00\n", " 3\n", "3 \n", "3\r\n", "3 4\n", "3@\n", "-3\n", "3\x00\n", "100001\n", "1000000\n", strings.Repeat("~", 99) + "\n"} {
		if n, ok := Size(d); n != 0 || ok {
			t.Errorf("Size(%q): %d %v", d, n, ok)
		}
	}
}

// R2: what Apply answers is no piece of what it was given.
func TestApplyAnswersNewMemory(t *testing.T) {
	source := strings.Repeat("source ", 9)
	d := of(source, digit.Put(len(source))+"@0,")
	got, ok := Apply(source, d)
	if got != source || !ok || unsafe.StringData(got) == unsafe.StringData(source) {
		t.Error(got, ok)
	}
	d = of(source, digit.Put(len(source))+":"+source)
	at := strings.Index(d, source)
	got, ok = Apply("", d)
	if got != source || !ok || unsafe.StringData(got) == unsafe.StringData(d[at:]) {
		t.Error(got, ok)
	}
}

// The section 'Runs'.
func TestRuns(t *testing.T) {
	d := "6\n3@0,3:xyz" + digit.Put(Check("abcxyz")) + ";"
	if got, ok := Apply("abcdef", d); got != "abcxyz" || !ok {
		t.Errorf("%q: %q %v", d, got, ok)
	}
}
