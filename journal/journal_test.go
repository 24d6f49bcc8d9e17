package journal

import (
	"math/rand"
	"slices"
	"strings"
	"testing"
	"unsafe"

	"ammonite/api"
	"ammonite/disk"
)

// noughts is n of them.
func noughts(n int) string { return strings.Repeat("\x00", n) }

// sector is one as the chapter says it: how many, these, noughts, the mark.
func sector(size byte, part string, mark byte) string {
	return string([]byte{size}) + part + noughts(30-len(part)) + string([]byte{mark})
}

// laid answers a disk of so many sectors that begins with these.
func laid(t *testing.T, n int, sectors ...string) *disk.Disk {
	t.Helper()
	d := disk.New(n)
	for i, s := range sectors {
		if !d.Write(i, s) {
			t.Fatalf("sector %d: %q", i, s)
		}
	}
	return d
}

// contents of a disk.
func contents(d *disk.Disk) []string {
	var sectors []string
	for _, s := range d.All() {
		sectors = append(sectors, s)
	}
	return sectors
}

// has fails if a journal hasn't just these transactions, up to that end.
func has(t *testing.T, j *Journal, end int, want ...string) {
	t.Helper()
	if got := slices.Collect(j.All()); !slices.Equal(got, want) {
		t.Errorf("transactions %q, want %q", got, want)
	}
	if j.Len() != len(want) || j.End() != end {
		t.Errorf("%d transactions up to %d, want %d up to %d", j.Len(), j.End(), len(want), end)
	}
}

// commits fails if a Commit doesn't say so.
func commits(t *testing.T, j *Journal, s string, want api.Errno) {
	t.Helper()
	if got := j.Commit(s); got != want {
		t.Errorf("commit of %d bytes: %d, want %d", len(s), got, want)
	}
}

// letters is a text of n bytes, in which no piece is as the next one.
func letters(n int) string {
	text := make([]byte, n)
	for i := range text {
		text[i] = byte(i*7 + i/30)
	}
	return string(text)
}

// P6.1: texts of each length, and what stands in their sectors byte by byte.
func TestPieces(t *testing.T) {
	for n := range 400 {
		s := letters(n)
		got := Pieces(s)
		if want := max(1, (n+29)/30); len(got) != want {
			t.Fatalf("%d bytes: %d pieces, want %d", n, len(got), want)
		}
		for i, p := range got {
			part, mark := s[30*i:min(30*i+30, n)], byte(1)
			if i == len(got)-1 {
				mark = 2
			}
			if p != sector(byte(len(part)), part, mark) {
				t.Errorf("%d bytes, piece %d: %q", n, i, p)
			}
		}
	}
}

// P6.1: the edges: nothing, a piece that is just full, and one byte more; bytes that look like marks and lengths.
func TestPiecesEdges(t *testing.T) {
	full := strings.Repeat("x", 30)
	for _, q := range []struct {
		s    string
		want []string
	}{
		{"", []string{noughts(31) + "\x02"}},
		{"\x00", []string{"\x01" + noughts(30) + "\x02"}},
		{"\x02\x01\xff", []string{"\x03\x02\x01\xff" + noughts(27) + "\x02"}},
		{full[1:], []string{"\x1d" + full[1:] + "\x00\x02"}},
		{full, []string{"\x1e" + full + "\x02"}},
		{full + "y", []string{"\x1e" + full + "\x01", "\x01y" + noughts(29) + "\x02"}},
		{full + full, []string{"\x1e" + full + "\x01", "\x1e" + full + "\x02"}},
		{full + full + "z", []string{"\x1e" + full + "\x01", "\x1e" + full + "\x01", "\x01z" + noughts(29) + "\x02"}},
	} {
		if got := Pieces(q.s); !slices.Equal(got, q.want) {
			t.Errorf("%q: %q", q.s, got)
		}
	}
	if got := Pieces(strings.Repeat("a", 30*3000+1)); len(got) != 3001 {
		t.Errorf("more than a disk has: %d", len(got))
	}
}

// P6.2: a new disk has none; each transaction of its pieces, up to the end of the disk, too.
func TestOpen(t *testing.T) {
	for _, n := range []int{1, 2, 7, 2000} {
		d := disk.New(n)
		j := Open(d)
		has(t, j, 0)
		if j.Disk() != d {
			t.Error("another disk")
		}
	}
	texts := []string{"", "a", letters(30), letters(31), letters(60), letters(61), letters(300), ""}
	var sectors []string
	for i, s := range texts {
		sectors = append(sectors, Pieces(s)...)
		has(t, Open(laid(t, len(sectors), sectors...)), len(sectors), texts[:i+1]...)
		has(t, Open(laid(t, len(sectors)+1, sectors...)), len(sectors), texts[:i+1]...)
		has(t, Open(laid(t, len(sectors)+9, sectors...)), len(sectors), texts[:i+1]...)
	}
	most := make([]string, 2000)
	for i := range most {
		most[i] = sector(1, "m", 2)
	}
	j := Open(laid(t, 2000, most...))
	if j.Len() != 2000 || j.End() != 2000 {
		t.Error(j.Len(), j.End())
	}
	long := letters(30 * 2000)
	has(t, Open(laid(t, 2000, Pieces(long)...)), 2000, long)
}

// P6.2: which last and first bytes of a sector end the reading.
func TestOpenStops(t *testing.T) {
	for mark := range 256 {
		d := laid(t, 4, sector(1, "a", 2), sector(1, "b", byte(mark)), sector(1, "c", 2))
		switch mark {
		case 1:
			has(t, Open(d), 3, "a", "bc")
		case 2:
			has(t, Open(d), 3, "a", "b", "c")
		default:
			has(t, Open(d), 1, "a")
		}
	}
	part := letters(30)
	for size := range 256 {
		for _, mark := range []byte{1, 2} {
			d := laid(t, 4, sector(1, "a", 2), sector(byte(size), part, mark), sector(1, "c", 2))
			switch {
			case size > 30:
				has(t, Open(d), 1, "a")
			case mark == 1:
				has(t, Open(d), 3, "a", part[:size]+"c")
			default:
				has(t, Open(d), 3, "a", part[:size], "c")
			}
		}
	}
}

// P6.2: what stands behind the last piece of 2 is no transaction, however it ends, and isn't a part of one.
func TestOpenBehind(t *testing.T) {
	one, begun := sector(3, "one", 2), sector(30, letters(30), 1)
	has(t, Open(laid(t, 3, one, begun, begun)), 1, "one")
	has(t, Open(laid(t, 4, one, begun, begun)), 1, "one")
	has(t, Open(laid(t, 2, begun, begun)), 0)
	has(t, Open(laid(t, 5, one, begun, sector(3, "two", 0), sector(3, "two", 2))), 1, "one")
	has(t, Open(laid(t, 5, one, begun, sector(31, "two", 2), sector(3, "two", 2))), 1, "one")
	has(t, Open(laid(t, 5, noughts(32), one, one)), 0)
	has(t, Open(laid(t, 5, begun, one, begun, sector(0, "", 3), one)), 2, letters(30)+"one")
}

// P6.2: pieces that no Commit writes: short ones ahead of others, bytes where noughts stand.
func TestOpenOddPieces(t *testing.T) {
	d := laid(t, 8, sector(0, "", 1), sector(2, "abcd", 1), sector(0, "zz", 1), sector(1, "ef", 2), sector(0, "q", 2), sector(3, "", 2))
	has(t, Open(d), 6, "abe", "", noughts(3))
}

// P6.2: Open reads alone, and of a disk that is down, too; what is done to the disk later doesn't turn a journal.
func TestOpenReadsAlone(t *testing.T) {
	d := laid(t, 6, append(Pieces("a"), append(Pieces(letters(40)), Pieces(letters(70))[:1]...)...)...)
	before := contents(d)
	d.Arm(0, 32)
	j := Open(d)
	has(t, j, 3, "a", letters(40))
	if d.Down() || !slices.Equal(contents(d), before) {
		t.Error("the disk is another one")
	}
	d.Write(5, "torn")
	k := Open(d)
	has(t, k, 3, "a", letters(40))
	if !d.Down() {
		t.Error("it is up")
	}
	d.Revive()
	d.Write(0, noughts(32))
	has(t, j, 3, "a", letters(40))
	has(t, k, 3, "a", letters(40))
	has(t, Open(d), 0)
}

// P6.2: All goes as long as it is asked for, and may be walked again; walks within walks.
func TestAllAsLongAsAsked(t *testing.T) {
	j := Open(disk.New(9))
	for _, s := range []string{"a", "b", letters(50), "d"} {
		commits(t, j, s, api.OK)
	}
	walk := j.All()
	for most := 1; most <= 5; most++ {
		asked := 0
		walk(func(s string) bool {
			if s != []string{"a", "b", letters(50), "d"}[asked] {
				t.Errorf("%d: %q", asked, s)
			}
			asked++
			return asked < most
		})
		if asked != min(most, 4) {
			t.Errorf("asked %d times, at most %d", asked, most)
		}
	}
	steps := ""
	for a := range walk {
		for b := range walk {
			if len(b) > 1 {
				break
			}
			steps += a[:1] + b
		}
	}
	if steps != "aaabbabb\x00a\x00bdadb" {
		t.Errorf("%q", steps)
	}
}

// P6.2, R2: a walk goes over what there is when it begins; what is committed meanwhile isn't seen by it.
func TestAllMeanwhile(t *testing.T) {
	j := Open(disk.New(20))
	walk := j.All()
	want := []string{"a", "b", "c"}
	for _, s := range want {
		commits(t, j, s, api.OK)
	}
	for range 2 {
		var got []string
		for s := range walk {
			got = append(got, s)
			commits(t, j, s+s, api.OK)
		}
		if !slices.Equal(got, want) {
			t.Errorf("%q, want %q", got, want)
		}
		for _, s := range got {
			want = append(want, s+s)
		}
	}
	has(t, j, len(want), want...)
}

// P6.3: what is committed stands in its pieces from End on, and nowhere else.
func TestCommit(t *testing.T) {
	d := disk.New(40)
	j := Open(d)
	want := contents(d)
	var told []string
	for _, n := range []int{5, 0, 30, 31, 0, 60, 61, 1, 299, 300, 29} {
		s := letters(n)
		copy(want[j.End():], Pieces(s))
		end := j.End() + len(Pieces(s))
		commits(t, j, s, api.OK)
		told = append(told, s)
		has(t, j, end, told...)
		has(t, Open(d), end, told...)
		if !slices.Equal(contents(d), want) {
			t.Errorf("%d bytes: the disk has %q", n, contents(d))
		}
	}
}

// P6.3: a journal that was opened on a disk that has some goes on behind them, over what is left there.
func TestCommitGoesOn(t *testing.T) {
	left := sector(30, letters(30), 1)
	d := laid(t, 6, sector(3, "one", 2), left, left, sector(3, "two", 0))
	j := Open(d)
	commits(t, j, letters(31), api.OK)
	has(t, j, 3, "one", letters(31))
	has(t, Open(d), 3, "one", letters(31))
	if got, _ := d.Read(3); got != sector(3, "two", 0) {
		t.Errorf("behind it: %q", got)
	}
	commits(t, j, "", api.OK)
	has(t, Open(d), 4, "one", letters(31), "")
}

// P6.3: ErrFull where the pieces are more than there are sectors, and nothing is done; a shorter one goes well then.
func TestCommitFull(t *testing.T) {
	for n := 1; n <= 6; n++ {
		for used := range n + 1 {
			d := disk.New(n)
			j := Open(d)
			for range used {
				commits(t, j, "u", api.OK)
			}
			before := contents(d)
			free := n - used
			d.Arm(0, 32)
			for _, s := range []string{letters(30*free + 1), letters(30*free + 31), letters(1 << 20)} {
				commits(t, j, s, api.ErrFull)
			}
			if free == 0 {
				commits(t, j, "", api.ErrFull)
			}
			if d.Down() || !slices.Equal(contents(d), before) {
				t.Error("something was written")
			}
			d.Arm(api.MaxSectors, 0)
			want := slices.Repeat([]string{"u"}, used)
			has(t, j, used, want...)
			if free > 0 {
				commits(t, j, letters(30*free), api.OK)
				want = append(want, letters(30*free))
			}
			has(t, j, n, want...)
			has(t, Open(d), n, want...)
			commits(t, j, "", api.ErrFull)
		}
	}
	j := Open(disk.New(api.MaxSectors))
	commits(t, j, letters(30*api.MaxSectors+1), api.ErrFull)
	commits(t, j, letters(30*api.MaxSectors), api.OK)
	has(t, j, api.MaxSectors, letters(30*api.MaxSectors))
}

// P6.3: the pieces are written in order, none behind the first that fails, and that one is no transaction.
func TestCommitTorn(t *testing.T) {
	s := letters(100)
	pieces := Pieces(s)
	for good := range pieces {
		for keep := 0; keep <= api.Sector; keep++ {
			d := disk.New(9)
			j := Open(d)
			commits(t, j, "ahead", api.OK)
			want := contents(d)
			copy(want[1:], pieces[:good])
			want[1+good] = pieces[good][:keep] + want[1+good][keep:]
			d.Arm(good, keep)
			commits(t, j, s, api.ErrDown)
			has(t, j, 1, "ahead")
			if !slices.Equal(contents(d), want) {
				t.Errorf("%d, %d: %q", good, keep, contents(d))
			}
		}
	}
}

// P6.3: from a failed Write on each Commit says ErrDown, too long ones too, and nothing is done, be the disk up again or not.
func TestCommitAfterTorn(t *testing.T) {
	d := disk.New(4)
	j := Open(d)
	commits(t, j, "a", api.OK)
	d.Arm(1, 7)
	commits(t, j, letters(40), api.ErrDown)
	before := contents(d)
	for range 2 {
		for _, s := range []string{"", "b", letters(40), letters(90), letters(91), letters(9000)} {
			commits(t, j, s, api.ErrDown)
		}
		has(t, j, 1, "a")
		if !slices.Equal(contents(d), before) {
			t.Errorf("the disk has %q", contents(d))
		}
		d.Revive()
	}
	k := Open(d)
	has(t, k, 1, "a")
	commits(t, k, letters(91), api.ErrFull)
	commits(t, k, "b", api.OK)
	has(t, k, 2, "a", "b")
	commits(t, j, "c", api.ErrDown)
	has(t, j, 1, "a")
	has(t, Open(d), 2, "a", "b")
}

// P6.3: a disk that is down already: ErrFull is told ahead of it, and leaves the journal as it was.
func TestCommitDown(t *testing.T) {
	d := disk.New(2)
	d.Arm(0, 0)
	d.Write(0, "x")
	j := Open(d)
	commits(t, j, letters(61), api.ErrFull)
	if !d.Down() {
		t.Error("it is up")
	}
	d.Revive()
	commits(t, j, "a", api.OK)
	d.Arm(0, 0)
	d.Write(1, "x")
	commits(t, j, letters(31), api.ErrFull)
	commits(t, j, "b", api.ErrDown)
	d.Revive()
	commits(t, j, letters(31), api.ErrDown)
	commits(t, j, "b", api.ErrDown)
	has(t, j, 1, "a")
	has(t, Open(d), 1, "a")
}

// R3: a refused Commit has no part in what comes later.
func TestRefusedIsForgotten(t *testing.T) {
	d, other := disk.New(5), disk.New(5)
	j, k := Open(d), Open(other)
	for _, s := range []string{"a", letters(200), letters(61), "", letters(31), "b"} {
		if e := j.Commit(s); e == api.OK {
			commits(t, k, s, api.OK)
		}
		if !slices.Equal(contents(d), contents(other)) || j.End() != k.End() {
			t.Errorf("%d bytes: another disk", len(s))
		}
	}
	has(t, j, 5, "a", letters(61), "")
}

// P6.4: torn at each write and byte, over noughts and over what an earlier tear left: what was told is there, and the one in flight where its last piece is whole.
func TestTornAnywhere(t *testing.T) {
	texts := []string{"first", letters(95), "", letters(61), letters(30)}
	for _, left := range []int{0, 1, 4, 12} {
		for writes := range 13 {
			for keep := 0; keep <= api.Sector; keep++ {
				d := disk.New(20)
				d.Arm(left, 31)
				Open(d).Commit(letters(20 * 30))
				d.Revive()
				j := Open(d)
				has(t, j, 0)
				d.Arm(writes, keep)
				var want []string
				end, gone := 0, 0
				for _, s := range texts {
					n := len(Pieces(s))
					if e := j.Commit(s); e == api.OK || gone+n == writes+1 && keep == api.Sector {
						want, end = append(want, s), end+n
					}
					if gone += n; gone > writes {
						break
					}
				}
				d.Revive()
				d.Arm(api.MaxSectors, 0)
				k := Open(d)
				has(t, k, end, want...)
				commits(t, k, "next", api.OK)
				has(t, Open(d), end+1, append(want, "next")...)
				if t.Failed() {
					t.Fatal(left, writes, keep)
				}
			}
		}
	}
}

// P6.1 to P6.4: many commits and tears on one disk, opened anew behind each of them.
func TestManyTears(t *testing.T) {
	r := rand.New(rand.NewSource(1))
	for range 400 {
		d := disk.New(1 + r.Intn(40))
		j := Open(d)
		var told []string
		end := 0
		for range 60 {
			if r.Intn(3) == 0 {
				d.Arm(r.Intn(6), r.Intn(33))
			}
			s := strings.Repeat(string(rune(r.Intn(4))), r.Intn(200))
			n := len(Pieces(s))
			full := n > d.Sectors()-end
			e := j.Commit(s)
			if full != (e == api.ErrFull) || !full && d.Down() != (e == api.ErrDown) {
				t.Fatal(e, full, d.Down())
			}
			if e == api.OK {
				told, end = append(told, s), end+n
			}
			has(t, j, end, told...)
			if e == api.ErrDown {
				if wholly(d, end+n-1, Pieces(s)[n-1]) {
					told, end = append(told, s), end+n
				}
				d.Revive()
				j = Open(d)
			}
			has(t, j, end, told...)
			has(t, Open(d), end, told...)
			if t.Failed() {
				t.Fatal("sectors: ", d.Sectors())
			}
		}
	}
}

// wholly tells whether a sector has just that.
func wholly(d *disk.Disk, i int, want string) bool {
	got, _ := d.Read(i)
	return got == want
}

// R2: what is committed isn't kept, and what is answered is new.
func TestNewMemory(t *testing.T) {
	j := Open(disk.New(5))
	bytes := []byte(letters(40))
	s := unsafe.String(&bytes[0], len(bytes))
	pieces := Pieces(s)
	commits(t, j, s, api.OK)
	bytes[0] = 'z'
	has(t, j, 2, letters(40))
	if pieces[0] != Pieces(letters(40))[0] {
		t.Errorf("%q", pieces)
	}
	pieces[1] = "turned"
	has(t, j, 2, letters(40))
	one, other := slices.Collect(j.All()), slices.Collect(j.All())
	if unsafe.StringData(one[0]) == unsafe.StringData(other[0]) {
		t.Error("two answers share their bytes")
	}
}

// R2: two journals of two disks are two.
func TestTwoJournals(t *testing.T) {
	d := disk.New(5)
	c := d.Copy()
	j, k := Open(d), Open(c)
	commits(t, j, "a", api.OK)
	commits(t, k, letters(31), api.OK)
	c.Arm(0, 0)
	commits(t, k, "", api.ErrDown)
	commits(t, j, "b", api.OK)
	has(t, j, 2, "a", "b")
	has(t, k, 2, letters(31))
}

// The section 'Runs'.
func TestRuns(t *testing.T) {
	d := disk.New(3)
	j := Open(d)
	commits(t, j, "hello", api.OK)
	has(t, j, 1, "hello")
	has(t, Open(d), 1, "hello")
	d = disk.New(3)
	j = Open(d)
	d.Arm(0, 31)
	commits(t, j, "hello", api.ErrDown)
	has(t, j, 0)
	d.Revive()
	has(t, Open(d), 0)
}
