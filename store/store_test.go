package store

import (
	"maps"
	"math/rand"
	"slices"
	"strconv"
	"strings"
	"testing"
	"unsafe"

	"ammonite/api"
	"ammonite/disk"
	"ammonite/journal"
)

// put is a row of a key that has something.
func put(key, value string) api.Row { return api.Row{Key: key, Value: value} }

// drop is a row of a key that has nothing any more.
func drop(key string) api.Row { return api.Row{Key: key, Gone: true} }

// pairs of a walk, one behind the other.
func pairs(walk func(func(string, string) bool)) []string {
	var told []string
	for k, v := range walk {
		told = append(told, k+"="+v)
	}
	return told
}

// has fails if a store hasn't just these rows, by all of its calls.
func has(t *testing.T, s *Store, want ...string) {
	t.Helper()
	if got := pairs(s.All()); !slices.Equal(got, want) {
		t.Errorf("rows %q, want %q", got, want)
	}
	if got := pairs(s.From("")); !slices.Equal(got, want) {
		t.Errorf("rows from nothing on %q, want %q", got, want)
	}
	if s.Len() != len(want) {
		t.Errorf("%d keys, want %d", s.Len(), len(want))
	}
	for _, row := range want {
		key, value, _ := strings.Cut(row, "=")
		if got, ok := s.Get(key); !ok || got != value {
			t.Errorf("%q has %q, %v, want %q", key, got, ok, value)
		}
	}
}

// commits fails if a Commit doesn't say so.
func commits(t *testing.T, s *Store, want api.Errno, rows ...api.Row) {
	t.Helper()
	if got := s.Commit(rows...); got != want {
		t.Errorf("commit of %d rows: %d, want %d", len(rows), got, want)
	}
}

// texts of a store's journal.
func texts(s *Store) []string { return slices.Collect(s.Journal().All()) }

// written are rows and the text of each that the chapter asks for.
var written = []struct {
	row  api.Row
	text string
}{
	{put("a", "1"), "1 1 a1"},
	{put("a", ""), "1 0 a"},
	{put("key", "value"), "3 5 keyvalue"},
	{drop("a"), "1 -a"},
	{drop("key"), "3 -key"},
	{put("-", "-"), "1 1 --"},
	{drop("-"), "1 --"},
	{put(" ", " "), "1 1   "},
	{drop(" "), "1 - "},
	{put("1 1 a", "1 1 a1"), "5 6 1 1 a1 1 a1"},
	{put("\x00\xff", "\n\x80"), "2 2 \x00\xff\n\x80"},
	{put("ten of 10.", "ten of 10."), "10 10 ten of 10.ten of 10."},
	{put(strings.Repeat("k", 59), ""), "59 0 " + strings.Repeat("k", 59)},
	{put(strings.Repeat("k", 60), "v"), "60 1 " + strings.Repeat("k", 60) + "v"},
	{drop(strings.Repeat("k", 60)), "60 -" + strings.Repeat("k", 60)},
	{put("long", strings.Repeat("v", 70000)), "4 70000 long" + strings.Repeat("v", 70000)},
}

// P7.1: each row alone, each behind each other one, and all of them together.
func TestText(t *testing.T) {
	check := func(text string, rows ...api.Row) {
		t.Helper()
		if got := Text(rows...); got != text {
			t.Errorf("%v: %q, want %q", rows, got, text)
		}
		if got, ok := Read(text); !ok || !slices.Equal(got, rows) {
			t.Errorf("%q: %v, %v", text, got, ok)
		}
	}
	check("")
	var all string
	var rows []api.Row
	for _, one := range written {
		check(one.text, one.row)
		for _, next := range written {
			check(one.text+next.text, one.row, next.row)
		}
		all += one.text
		rows = append(rows, one.row)
		check(all, rows...)
	}
}

// P7.1: the value of a row that is Gone isn't written, and isn't read; keys that no store takes are written all the same.
func TestTextOdd(t *testing.T) {
	if got := Text(api.Row{Key: "a", Value: "lost", Gone: true}, put("b", "2")); got != "1 -a1 1 b2" {
		t.Errorf("%q", got)
	}
	if got, ok := Read("1 -a"); !ok || len(got) != 1 || got[0].Value != "" || !got[0].Gone {
		t.Error(got, ok)
	}
	long := strings.Repeat("k", 61)
	for _, q := range []struct {
		row  api.Row
		want string
	}{{api.Row{}, "0 0 "}, {put("", "v"), "0 1 v"}, {drop(""), "0 -"}, {put(long, "v"), "61 1 " + long + "v"}, {drop(long), "61 -" + long}} {
		if got := Text(q.row); got != q.want {
			t.Errorf("%q, want %q", got, q.want)
		}
		for _, s := range []string{q.want, "1 1 a1" + q.want, q.want + "1 1 a1"} {
			refused(t, s)
		}
	}
}

// refused fails if a text is read.
func refused(t *testing.T, s string) {
	t.Helper()
	if got, ok := Read(s); ok || got != nil {
		t.Errorf("%.99q: %v, %v", s, got, ok)
	}
}

// P7.1: texts that are of no rows, alone and behind a right row.
func TestReadRefuses(t *testing.T) {
	long := strings.Repeat("k", 99)
	for _, s := range []string{
		" ", "-", "a", "1", "11", "1 ", "1 1", "1 1 ", "1 1 a", "1 -", "1 - ab", "1 -ab", "2 -a", "1 2 a1", "2 1 a1",
		"0 0 ", "0 -", "0 1 a", "0 -a", "61 0 " + long, "61 -" + long, "99 0 " + long, "1073741824 -a", "1073741824 0 a",
		"01 1 a1", "1 01 a1", "00 0 ", "1 00 a", "+1 1 a1", "1 +1 a1", "-1 1 a1", "1 -1 a1", "1_ 1 a1", "A 0 " + long, "1 A " + long,
		"1  1 a1", " 1 1 a1", "1 1  a1 ", "1 1\ta1", "1\t1 a1", "1,1 a1", "1 --a", "1  a", "1 a", "1 x a1", "1 1a1",
		"1 1073741823 a1", "1 1073741824 a1", "1 1073741825 a1", "1 9223372036854775807 a1", "1 18446744073709551617 a1", "18446744073709551617 1 a1",
		"1 1 a1 ", "1 1 a1x", "1 1 a1\n", "1 -a ", "1 -a\x00", "1.0 1 a1", "1 1.0 a1", "１ 1 a1",
	} {
		refused(t, s)
		refused(t, "1 1 b2"+s)
		refused(t, "1 -b"+s)
	}
}

// P7.1: of all short texts over some bytes those alone are read that are the Text of what is read.
func TestReadStrictly(t *testing.T) {
	const bytes = "012 -"
	right := map[string]bool{"": true}
	short := map[string]bool{}
	var words func(s string, most int) []string
	words = func(s string, most int) []string {
		all := []string{s}
		for i := 0; i < len(bytes) && len(s) < most; i++ {
			all = append(all, words(s+bytes[i:i+1], most)...)
		}
		return all
	}
	for _, key := range words("", 2)[1:] {
		short[Text(drop(key))] = true
		for _, value := range words("", 2) {
			short[Text(put(key, value))] = true
		}
	}
	for one := range short {
		right[one] = true
		for other := range short {
			if len(one)+len(other) <= 8 {
				right[one+other] = true
			}
		}
	}
	seen := 0
	for _, s := range words("", 8) {
		rows, ok := Read(s)
		if ok != right[s] || ok && Text(rows...) != s || !ok && rows != nil {
			t.Fatalf("%q: %v, %v", s, rows, ok)
		}
		if ok {
			seen++
		}
	}
	if seen < 100 {
		t.Error("few are right: ", seen)
	}
}

// P7.1, R1: each beginning of a text, and each text with a byte turned: no panic, and read only what is a Text.
func TestReadTurned(t *testing.T) {
	text := Text(put("a", "1"), drop("key"), put(strings.Repeat("k", 12), strings.Repeat("v", 11)), put("e", ""))
	ends := map[int]bool{0: true, 6: true, 12: true, 41: true, 46: true}
	for end := range len(text) + 1 {
		if _, ok := Read(text[:end]); ok != ends[end] {
			t.Errorf("%d: %v", end, ok)
		}
	}
	for i := range len(text) {
		for b := range 256 {
			turned := []byte(text)
			turned[i] = byte(b)
			if rows, ok := Read(string(turned)); ok && Text(rows...) != string(turned) {
				t.Errorf("%q: %v", turned, rows)
			}
		}
	}
}

// P7.2: a new disk has no rows, and its journal is that of the disk.
func TestOpenNew(t *testing.T) {
	for _, n := range []int{-1, 1, 7, 2000} {
		d := disk.New(n)
		s := Open(d)
		has(t, s)
		if s.Journal() == nil || s.Journal() != s.Journal() || s.Journal().Disk() != d || s.Journal().Len() != 0 {
			t.Error("another journal")
		}
		for _, key := range []string{"", "a", strings.Repeat("k", 61)} {
			if v, ok := s.Get(key); v != "" || ok {
				t.Errorf("%q has %q", key, v)
			}
		}
	}
}

// P7.2: each transaction is done in order, and those that aren't read count as nothing, wholly.
func TestOpenDoes(t *testing.T) {
	d := disk.New(50)
	j := journal.Open(d)
	for _, q := range []struct {
		text string
		want []string
	}{
		{"1 1 b2", []string{"b=2"}},
		{"", []string{"b=2"}},
		{"no rows", []string{"b=2"}},
		{"1 1 a1", []string{"a=1", "b=2"}},
		{"1 1 c31 -a1 ", []string{"a=1", "b=2"}},
		{"1 1 c361 0 " + strings.Repeat("k", 61), []string{"a=1", "b=2"}},
		{"1 1 c31 1 c41 -a", []string{"b=2", "c=4"}},
		{"1 -d1 -a1 0 b", []string{"b=", "c=4"}},
		{"1 -b1 1 b5", []string{"b=5", "c=4"}},
		{"1 1 b61 -b", []string{"c=4"}},
		{"2 40 ca" + strings.Repeat("x", 40), []string{"c=4", "ca=" + strings.Repeat("x", 40)}},
		{"2 -ca1 -c", nil},
	} {
		if e := j.Commit(q.text); e != api.OK {
			t.Fatal(e)
		}
		s := Open(d)
		has(t, s, q.want...)
		if s.Journal().Len() != j.Len() || s.Journal().End() != j.End() {
			t.Errorf("%q: %d transactions", q.text, s.Journal().Len())
		}
	}
}

// P7.2: a store has what was done when it was opened, and by it: not what its journal, or another one, is given besides.
func TestOpenReadsOnce(t *testing.T) {
	d := disk.New(9)
	s := Open(d)
	commits(t, s, api.OK, put("a", "1"))
	s.Journal().Commit(Text(put("b", "2")))
	has(t, s, "a=1")
	commits(t, s, api.OK, put("c", "3"))
	has(t, s, "a=1", "c=3")
	has(t, Open(d), "a=1", "b=2", "c=3")
	d.Write(0, "")
	has(t, s, "a=1", "c=3")
	has(t, Open(d))
}

// P7.2: rising keys are rising bytes; beginnings of others come ahead of them.
func TestAllRises(t *testing.T) {
	keys := []string{"\x00", "\x00\x00", " ", "-", "0", "10", "2", "A", "Z", "a", "a\x00", "aa", "a\xff", "b", "\x7f", "\x80", "é", "\xff", "\xff\xff", strings.Repeat("\xff", 60)}
	want := make([]string, len(keys))
	for i, k := range keys {
		want[i] = k + "=" + strconv.Itoa(i)
	}
	r := rand.New(rand.NewSource(1))
	for range 20 {
		s := Open(disk.New(100))
		for _, i := range r.Perm(len(keys)) {
			commits(t, s, api.OK, put(keys[i], strconv.Itoa(i)))
		}
		has(t, s, want...)
		has(t, Open(s.Journal().Disk()), want...)
	}
}

// P7.2: From, with each beginning that there is, and others.
func TestFrom(t *testing.T) {
	s := Open(disk.New(40))
	all := []string{"a", "ab", "abc", "abd", "ac", "b", "b\xff", "b\xff\xff", "c", "\xff", "\xff\xff"}
	for _, key := range all {
		commits(t, s, api.OK, put(key, key+key))
	}
	prefixes := append([]string{"", "a\x00", "abcd", "abb", "B", "d", "\x00", "c\x00", "\xfe", "\xff\xff\xff", strings.Repeat("a", 99)}, all...)
	for _, prefix := range prefixes {
		var want []string
		for _, key := range all {
			if strings.HasPrefix(key, prefix) {
				want = append(want, key+"="+key+key)
			}
		}
		if got := pairs(s.From(prefix)); !slices.Equal(got, want) {
			t.Errorf("%q: %q, want %q", prefix, got, want)
		}
	}
}

// P7.2: walks go as long as they are asked for, may be walked again, and within one another.
func TestWalksAsLongAsAsked(t *testing.T) {
	s := Open(disk.New(20))
	commits(t, s, api.OK, put("a", "1"), put("b1", "2"), put("b2", "3"), put("c", "4"))
	for _, q := range []struct {
		walk func(func(string, string) bool)
		want []string
	}{{s.All(), []string{"a", "b1", "b2", "c"}}, {s.From("b"), []string{"b1", "b2"}}, {s.From("x"), nil}} {
		for most := 1; most <= 5; most++ {
			var asked []string
			q.walk(func(k, v string) bool {
				asked = append(asked, k)
				return len(asked) < most
			})
			if !slices.Equal(asked, q.want[:min(most, len(q.want))]) {
				t.Errorf("at most %d: %q", most, asked)
			}
		}
	}
	steps := ""
	walk := s.All()
	for a := range walk {
		for b, v := range s.From(a[:1]) {
			steps += a + b + v + " "
			for c := range walk {
				steps += c
				break
			}
		}
		if a == "b2" {
			break
		}
	}
	if steps != "aa1 ab1b12 ab1b23 ab2b12 ab2b23 a" {
		t.Errorf("%q", steps)
	}
}

// P7.2, R2: a walk goes over what there is when it begins; what is committed meanwhile doesn't turn it.
func TestWalksMeanwhile(t *testing.T) {
	s := Open(disk.New(200))
	all, some := s.All(), s.From("b")
	commits(t, s, api.OK, put("a", "1"), put("b", "2"), put("bb", "3"), put("c", "4"))
	var got []string
	for k, v := range all {
		got = append(got, k+"="+v)
		commits(t, s, api.OK, drop("b"), put("a", "9"), put("aa", "5"), put("bb", "8"), drop("c"), put("z", "7"))
	}
	if want := []string{"a=1", "b=2", "bb=3", "c=4"}; !slices.Equal(got, want) {
		t.Errorf("%q", got)
	}
	has(t, s, "a=9", "aa=5", "bb=8", "z=7")
	got = nil
	for k, v := range some {
		got = append(got, k+"="+v)
		commits(t, s, api.OK, drop("a"), drop("bb"), put("bc", "0"))
	}
	if want := []string{"bb=8"}; !slices.Equal(got, want) {
		t.Errorf("%q", got)
	}
	if got := pairs(some); !slices.Equal(got, []string{"bc=0"}) {
		t.Errorf("%q", got)
	}
	has(t, s, "aa=5", "bc=0", "z=7")
}

// P7.3: rows are done in order; the journal has their Text, none of them too.
func TestCommit(t *testing.T) {
	d := disk.New(60)
	s := Open(d)
	var want []string
	for _, q := range []struct {
		rows []api.Row
		want []string
	}{
		{[]api.Row{put("b", "2"), put("a", "1")}, []string{"a=1", "b=2"}},
		{nil, []string{"a=1", "b=2"}},
		{[]api.Row{}, []string{"a=1", "b=2"}},
		{[]api.Row{drop("none")}, []string{"a=1", "b=2"}},
		{[]api.Row{put("a", "")}, []string{"a=", "b=2"}},
		{[]api.Row{put("c", "3"), put("c", "4"), put("c", "5")}, []string{"a=", "b=2", "c=5"}},
		{[]api.Row{drop("b"), put("b", "6"), put("d", "7"), drop("d")}, []string{"a=", "b=6", "c=5"}},
		{[]api.Row{{Key: "a", Value: "kept", Gone: true}, {Key: "e", Value: "kept", Gone: true}}, []string{"b=6", "c=5"}},
		{[]api.Row{put(strings.Repeat("k", 60), strings.Repeat("v", 100)), drop("c")}, []string{"b=6", strings.Repeat("k", 60) + "=" + strings.Repeat("v", 100)}},
		{[]api.Row{drop(strings.Repeat("k", 60)), drop("b")}, nil},
	} {
		commits(t, s, api.OK, q.rows...)
		want = append(want, Text(q.rows...))
		has(t, s, q.want...)
		has(t, Open(d), q.want...)
		if got := texts(s); !slices.Equal(got, want) {
			t.Errorf("the journal has %q, want %q", got, want)
		}
	}
}

// P7.3: ErrForm for a wrong key, wherever it stands, ahead of ErrFull and ErrDown, and nothing is done.
func TestCommitForm(t *testing.T) {
	for _, wrong := range []api.Row{{}, put("", "v"), drop(""), put(strings.Repeat("k", 61), "v"), drop(strings.Repeat("k", 61)), put(strings.Repeat("k", 100000), "")} {
		for place := range 3 {
			d := disk.New(3)
			s := Open(d)
			commits(t, s, api.OK, put("a", "1"))
			d.Arm(0, 32)
			rows := slices.Insert([]api.Row{put("b", "2"), drop("a")}, place, wrong)
			commits(t, s, api.ErrForm, rows...)
			commits(t, s, api.ErrForm, append(rows, put("full", strings.Repeat("x", 100)))...)
			has(t, s, "a=1")
			if d.Down() || s.Journal().Len() != 1 {
				t.Error("something was written")
			}
			d.Write(2, "")
			commits(t, s, api.ErrForm, rows...)
			has(t, s, "a=1")
			commits(t, s, api.ErrDown, put("b", "2"))
			commits(t, s, api.ErrForm, rows...)
			has(t, s, "a=1")
		}
	}
}

// P7.3: ErrFull where the text has no room, just so, and the store stays as it was; a shorter one goes well then.
func TestCommitFull(t *testing.T) {
	d := disk.New(4)
	s := Open(d)
	commits(t, s, api.OK, put("a", "1"))
	room := 90 - len("1 85 b")
	commits(t, s, api.ErrFull, drop("a"), put("b", strings.Repeat("x", room)))
	commits(t, s, api.ErrFull, put("b", strings.Repeat("x", room+1)))
	commits(t, s, api.ErrFull, put("b", strings.Repeat("x", 1<<20)))
	has(t, s, "a=1")
	has(t, Open(d), "a=1")
	commits(t, s, api.OK, put("b", strings.Repeat("x", room)))
	has(t, s, "a=1", "b="+strings.Repeat("x", room))
	commits(t, s, api.ErrFull)
	commits(t, s, api.ErrFull, drop("a"))
	has(t, s, "a=1", "b="+strings.Repeat("x", room))
	has(t, Open(d), "a=1", "b="+strings.Repeat("x", room))
}

// P7.3: torn at each write and byte: the store stays as it was, takes none any more, and opened anew it has all or nothing.
func TestCommitTorn(t *testing.T) {
	rows := []api.Row{drop("a"), put("b", strings.Repeat("2", 60)), put("c", "3"), put("d", "4")}
	n := len(journal.Pieces(Text(rows...)))
	for writes := range n + 1 {
		for keep := 0; keep <= api.Sector; keep++ {
			d := disk.New(20)
			s := Open(d)
			commits(t, s, api.OK, put("a", "1"), put("d", "0"))
			d.Arm(writes, keep)
			want := []string{"a=1", "d=0"}
			done := []string{"b=" + strings.Repeat("2", 60), "c=3", "d=4"}
			if writes == n {
				commits(t, s, api.OK, rows...)
				has(t, s, done...)
				continue
			}
			commits(t, s, api.ErrDown, rows...)
			has(t, s, want...)
			d.Revive()
			commits(t, s, api.ErrDown, put("e", "5"))
			has(t, s, want...)
			if writes == n-1 && keep == api.Sector {
				want = done
			}
			x := Open(d)
			has(t, x, want...)
			commits(t, x, api.OK, put("e", "5"))
			has(t, x, append(want, "e=5")...)
			has(t, Open(d), append(want, "e=5")...)
			has(t, s, "a=1", "d=0")
			if t.Failed() {
				t.Fatal(writes, keep)
			}
		}
	}
}

// P7.1 to P7.3: many commits, held against a map, and tears among them.
func TestManyCommits(t *testing.T) {
	r := rand.New(rand.NewSource(2))
	for range 150 {
		d := disk.New(1 + r.Intn(300))
		s := Open(d)
		model := map[string]string{}
		for range 80 {
			rows := anyRows(r)
			if r.Intn(8) == 0 {
				d.Arm(r.Intn(4), r.Intn(33))
			}
			before := maps.Clone(model)
			for _, row := range rows {
				if row.Gone {
					delete(model, row.Key)
				} else {
					model[row.Key] = row.Value
				}
			}
			e := s.Commit(rows...)
			if e == api.ErrDown {
				has(t, s, sorted(before)...)
				d.Revive()
				s = Open(d)
			}
			if e == api.ErrFull || e == api.ErrDown && !slices.Equal(pairs(s.All()), sorted(model)) {
				model = before
			}
			has(t, s, sorted(model)...)
			has(t, Open(d), sorted(model)...)
			if e == api.ErrForm || t.Failed() {
				t.Fatal(e, rows)
			}
		}
	}
}

// anyRows answers up to 5 rows of few keys.
func anyRows(r *rand.Rand) []api.Row {
	rows := make([]api.Row, r.Intn(6))
	for i := range rows {
		key := strings.Repeat(string(rune('a'+r.Intn(4))), 1+r.Intn(3))
		rows[i] = put(key, strings.Repeat("-", r.Intn(40)))
		if r.Intn(3) == 0 {
			rows[i] = drop(key)
		}
	}
	return rows
}

// sorted are a map's pairs by rising keys.
func sorted(model map[string]string) []string {
	var told []string
	for _, k := range slices.Sorted(maps.Keys(model)) {
		told = append(told, k+"="+model[k])
	}
	return told
}

// R2: rows that are handed in stay as they are, with their spare room, and aren't kept.
func TestHandedIn(t *testing.T) {
	key, value := []byte("key"), []byte("value")
	whole := []api.Row{put(unsafe.String(&key[0], 3), unsafe.String(&value[0], 5)), drop("b"), put("spare", "room")}
	before := slices.Clone(whole)
	s := Open(disk.New(9))
	text := Text(whole[:2]...)
	commits(t, s, api.OK, whole[:2]...)
	if !slices.Equal(whole, before) {
		t.Errorf("%v", whole)
	}
	rows, _ := Read(unsafe.String(unsafe.StringData(text), len(text)))
	some := s.From(unsafe.String(&key[0], 3))
	key[0], value[0], whole[0] = 'K', 'V', put("x", "y")
	has(t, s, "key=value")
	if text != "3 5 keyvalue1 -b" || rows[0] != put("key", "value") {
		t.Errorf("%q, %v", text, rows)
	}
	if got := pairs(some); !slices.Equal(got, []string{"key=value"}) {
		t.Errorf("%q", got)
	}
}

// R2: what is answered is new memory.
func TestNewMemory(t *testing.T) {
	bytes := []byte(Text(put("key", "value")))
	rows, ok := Read(unsafe.String(&bytes[0], len(bytes)))
	clear(bytes)
	if !ok || rows[0] != put("key", "value") {
		t.Errorf("%v", rows)
	}
	s := Open(disk.New(9))
	commits(t, s, api.OK, put("key", "value"))
	seen := map[*byte]bool{}
	check := func(text string) {
		t.Helper()
		if seen[unsafe.StringData(text)] {
			t.Errorf("two answers share %q", text)
		}
		seen[unsafe.StringData(text)] = true
	}
	for range 2 {
		v, _ := s.Get("key")
		check(v)
		for k, v := range s.All() {
			check(k)
			check(v)
		}
		for k, v := range s.From("k") {
			check(k)
			check(v)
		}
	}
}

// R2: two stores of two disks are two; two of one disk see each other's rows only when they are opened anew.
func TestTwoStores(t *testing.T) {
	d := disk.New(9)
	c := d.Copy()
	s, x, other := Open(d), Open(d), Open(c)
	commits(t, s, api.OK, put("a", "1"))
	commits(t, other, api.OK, put("b", "2"))
	has(t, s, "a=1")
	has(t, x)
	has(t, other, "b=2")
	has(t, Open(d), "a=1")
	has(t, Open(c), "b=2")
}

// The section 'Runs'.
func TestRuns(t *testing.T) {
	d := disk.New(9)
	s := Open(d)
	commits(t, s, api.OK, put("a", "1"), put("b", "2"))
	has(t, s, "a=1", "b=2")
	commits(t, s, api.OK, drop("a"))
	has(t, s, "b=2")
	if v, ok := s.Get("a"); v != "" || ok {
		t.Errorf("a has %q", v)
	}
	has(t, Open(d), "b=2")
}
