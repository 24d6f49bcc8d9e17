package disk

import (
	"math"
	"math/rand"
	"strings"
	"testing"
	"unsafe"

	"ammonite/api"
)

// full is s with noughts behind it.
func full(s string) string { return s + strings.Repeat("\x00", 32-len(s)) }

// holds fails if the disk's sectors don't begin with these, with noughts behind them.
func holds(t *testing.T, d *Disk, want ...string) {
	t.Helper()
	if d.Sectors() != len(want) {
		t.Errorf("%d sectors, want %d", d.Sectors(), len(want))
	}
	for i, s := range want {
		if got, ok := d.Read(i); got != full(s) || !ok {
			t.Errorf("sector %d: %q %v, want %q", i, got, ok, s)
		}
	}
}

// writes fails if a write doesn't say so.
func writes(t *testing.T, d *Disk, i int, data string, want bool) {
	t.Helper()
	if got := d.Write(i, data); got != want {
		t.Errorf("write %d %q: %v", i, data, got)
	}
}

// isDown fails if the disk isn't as it should be.
func isDown(t *testing.T, d *Disk, want bool) {
	t.Helper()
	if got := d.Down(); got != want {
		t.Errorf("down: %v", got)
	}
}

// P5.1: how many sectors a new disk has, and what is in them; nothing is armed, and it is up.
func TestNew(t *testing.T) {
	for _, q := range []struct{ n, want int }{
		{math.MinInt, 1}, {-1 << 31, 1}, {-1, 1}, {0, 1}, {1, 1}, {2, 2}, {31, 31}, {32, 32}, {33, 33}, {1999, 1999}, {2000, 2000}, {2001, 2000}, {1 << 31, 2000}, {1 << 32, 2000}, {math.MaxInt, 2000},
	} {
		d := New(q.n)
		isDown(t, d, false)
		holds(t, d, make([]string, q.want)...)
		for range 3 {
			for i := range q.want {
				writes(t, d, i, "a", true)
			}
		}
		isDown(t, d, false)
	}
}

// P5.1: two new disks are two.
func TestNewIsNew(t *testing.T) {
	a, b := New(2), New(2)
	a.Write(0, "a")
	b.Write(1, "b")
	a.Arm(0, 0)
	writes(t, a, 0, "c", false)
	isDown(t, a, true)
	isDown(t, b, false)
	holds(t, a, "a", "")
	holds(t, b, "", "b")
	writes(t, b, 0, "c", true)
}

// P5.1: Read of what is no sector, and of a disk that is down.
func TestRead(t *testing.T) {
	d := New(3)
	writes(t, d, 0, "first", true)
	writes(t, d, 2, "last", true)
	none := func() {
		for _, i := range []int{math.MinInt, -1 << 32, -3, -2, -1, 3, 4, 32, 1999, 2000, 1 << 31, 1 << 32, math.MaxInt} {
			if got, ok := d.Read(i); got != "" || ok {
				t.Errorf("sector %d: %q %v", i, got, ok)
			}
		}
	}
	none()
	d.Arm(0, 0)
	writes(t, d, 1, "middle", false)
	isDown(t, d, true)
	holds(t, d, "first", "", "last")
	none()
	d = New(2000)
	writes(t, d, 1999, "end", true)
	if got, ok := d.Read(1999); got != full("end") || !ok {
		t.Errorf("%q %v", got, ok)
	}
	if got, ok := d.Read(2000); got != "" || ok {
		t.Errorf("%q %v", got, ok)
	}
}

// P5.1: All goes over each sector from 0 on, of a disk that is down, too.
func TestAll(t *testing.T) {
	for _, n := range []int{1, 2, 5, 2000} {
		for _, down := range []bool{false, true} {
			d := New(n)
			for i := range n {
				writes(t, d, i, strings.Repeat("x", i%33), true)
			}
			if down {
				d.Arm(0, 0)
				writes(t, d, 0, "", false)
			}
			isDown(t, d, down)
			next := 0
			for i, s := range d.All() {
				if i != next || s != full(strings.Repeat("x", i%33)) {
					t.Fatalf("of %d: sector %d: %q, want %d", n, i, s, next)
				}
				next++
			}
			if next != n {
				t.Errorf("%d sectors of %d", next, n)
			}
		}
	}
}

// P5.1: All goes as long as it is asked for, and may be walked again.
func TestAllAsLongAsAsked(t *testing.T) {
	d := New(5)
	walk := d.All()
	for most := 1; most <= 6; most++ {
		asked := 0
		walk(func(i int, s string) bool {
			if i != asked || s != full("") {
				t.Errorf("sector %d: %q", i, s)
			}
			asked++
			return asked < most
		})
		if asked != min(most, 5) {
			t.Errorf("asked %d times, at most %d", asked, most)
		}
	}
}

// P5.1, R2: a walk goes over what there is when it begins, not when it is asked for; what is done meanwhile doesn't turn it.
func TestAllMeanwhile(t *testing.T) {
	d := New(3)
	writes(t, d, 0, "old", true)
	walk := d.All()
	writes(t, d, 0, "a", true)
	writes(t, d, 1, "b", true)
	for range 2 {
		var seen []string
		for i, s := range walk {
			seen = append(seen, strings.TrimRight(s, "\x00"))
			for k := range 3 {
				writes(t, d, k, "new", true)
			}
			d.Arm(0, 2)
			writes(t, d, i, "zz", false)
			d.Revive()
		}
		if got := strings.Join(seen, ","); got != "a,b," {
			t.Errorf("%q", got)
		}
		holds(t, d, "new", "new", "zzw")
		writes(t, d, 0, "a", true)
		writes(t, d, 1, "b", true)
		writes(t, d, 2, "", true)
	}
}

// P5.1: walks within walks.
func TestAllNested(t *testing.T) {
	d := New(3)
	steps := ""
	walk := d.All()
	for i := range walk {
		for k := range walk {
			if k > i {
				break
			}
			steps += string(rune('0'+i)) + string(rune('0'+k)) + " "
		}
	}
	if steps != "00 10 11 20 21 22 " {
		t.Errorf("%q", steps)
	}
}

// P5.2: data, with noughts behind it, whatever stood there; no other sector is touched.
func TestWrite(t *testing.T) {
	for n := range 33 {
		d := New(3)
		for i := range 3 {
			writes(t, d, i, strings.Repeat("o", 32), true)
		}
		data := strings.Repeat("n", n)
		writes(t, d, 1, data, true)
		holds(t, d, strings.Repeat("o", 32), data, strings.Repeat("o", 32))
		isDown(t, d, false)
	}
	d := New(1)
	for _, s := range []string{"a", "", "\x00", "\x00a", "a\x00b", "\xff\xfe", "ü", strings.Repeat("\xff", 32)} {
		writes(t, d, 0, s, true)
		holds(t, d, s)
	}
}

// P5.2: writes of what is no sector, or too long, do nothing.
func TestWriteRefused(t *testing.T) {
	d := New(3)
	for i, s := range []string{"a", "b", "c"} {
		writes(t, d, i, s, true)
	}
	for _, i := range []int{math.MinInt, -1 << 32, -3, -2, -1, 3, 4, 2000, 1 << 31, 1 << 32, math.MaxInt} {
		for _, s := range []string{"", "x", strings.Repeat("x", 32), strings.Repeat("x", 33)} {
			writes(t, d, i, s, false)
		}
	}
	for i := range 3 {
		for _, n := range []int{33, 34, 64, 1 << 16} {
			writes(t, d, i, strings.Repeat("x", n), false)
			writes(t, d, i, strings.Repeat("\x00", n), false)
		}
	}
	isDown(t, d, false)
	holds(t, d, "a", "b", "c")
}

// P5.2: every keep, of data of every length.
func TestTorn(t *testing.T) {
	old := "abcdefghijklmnopqrstuvwxyz012345"
	for keep := -2; keep <= 35; keep++ {
		for n := range 33 {
			d := New(3)
			for i := range 3 {
				writes(t, d, i, old, true)
			}
			d.Arm(0, keep)
			isDown(t, d, false)
			data := strings.Repeat("N", n)
			writes(t, d, 1, data, false)
			isDown(t, d, true)
			kept := min(max(keep, 0), 32)
			holds(t, d, old, full(data)[:kept]+old[kept:], old)
		}
	}
	for keep, want := range map[int]string{math.MinInt: old, math.MaxInt: "N"} {
		d := New(1)
		writes(t, d, 0, old, true)
		d.Arm(0, keep)
		writes(t, d, 0, "N", false)
		isDown(t, d, true)
		holds(t, d, want)
	}
}

// P5.2: a disk that is down writes nothing; behind a tear nothing is armed.
func TestWriteDown(t *testing.T) {
	d := New(2)
	d.Arm(0, 1)
	writes(t, d, 0, "abc", false)
	for range 3 {
		isDown(t, d, true)
		for i := -1; i < 3; i++ {
			writes(t, d, i, "more", false)
			writes(t, d, i, strings.Repeat("x", 33), false)
		}
	}
	holds(t, d, "a", "")
	d.Revive()
	for range 100 {
		writes(t, d, 0, "up", true)
		writes(t, d, 1, "again", true)
	}
	isDown(t, d, false)
	holds(t, d, "up", "again")
}

// P5.3: as many writes go well as were armed, wherever they go; those that aren't done don't count.
func TestArm(t *testing.T) {
	for _, armed := range []int{math.MinInt, -9, -1, 0, 1, 2, 3, 50} {
		d := New(4)
		d.Arm(armed, 1)
		for k := range max(armed, 0) {
			writes(t, d, -1, "x", false)
			writes(t, d, 4, "x", false)
			writes(t, d, k%4, strings.Repeat("x", 33), false)
			isDown(t, d, false)
			writes(t, d, k%4, "good", true)
			isDown(t, d, false)
		}
		writes(t, d, 4, "x", false)
		writes(t, d, 3, strings.Repeat("x", 33), false)
		isDown(t, d, false)
		before, _ := d.Read(3)
		writes(t, d, 3, "torn", false)
		isDown(t, d, true)
		if got, _ := d.Read(3); got != "t"+before[1:] {
			t.Errorf("armed %d: %q", armed, got)
		}
	}
	d := New(1)
	d.Arm(math.MaxInt, 0)
	for range 5000 {
		writes(t, d, 0, "a", true)
	}
	isDown(t, d, false)
}

// P5.3: what else is asked doesn't count as a write.
func TestArmCountsWritesAlone(t *testing.T) {
	d := New(2)
	d.Arm(1, 1)
	for range 5 {
		d.Read(0)
		d.Sectors()
		d.Down()
		d.Revive()
		d.Copy().Write(0, "copy")
		for range d.All() {
		}
	}
	writes(t, d, 0, "ab", true)
	writes(t, d, 0, "xy", false)
	holds(t, d, "xb", "")
}

// P5.3: a later Arm takes the place of an earlier one, be it sooner or later.
func TestArmAgain(t *testing.T) {
	for _, q := range []struct{ first, done, second int }{{0, 0, 2}, {5, 0, 0}, {5, 3, 1}, {2, 2, 2}, {1, 1, 0}, {3, 1, 2}} {
		d := New(1)
		d.Arm(q.first, 32)
		for range q.done {
			writes(t, d, 0, "aaa", true)
		}
		writes(t, d, 0, strings.Repeat("x", 33), false)
		d.Arm(q.second, 2)
		for range q.second {
			writes(t, d, 0, "aaa", true)
		}
		before, _ := d.Read(0)
		writes(t, d, 0, "bbb", false)
		isDown(t, d, true)
		holds(t, d, "bb"+strings.TrimRight(before[2:], "\x00"))
		d.Revive()
		for range 9 {
			writes(t, d, 0, "ccc", true)
		}
	}
}

// P5.3: writes ahead of an Arm aren't counted.
func TestArmLate(t *testing.T) {
	d := New(1)
	for range 7 {
		writes(t, d, 0, "a", true)
	}
	d.Arm(2, 0)
	writes(t, d, 0, "b", true)
	writes(t, d, 0, "c", true)
	writes(t, d, 0, "d", false)
	holds(t, d, "c")
}

// P5.3: a disk that is down can be armed: that holds when it is up again.
func TestArmDown(t *testing.T) {
	d := New(1)
	d.Arm(0, 0)
	writes(t, d, 0, "a", false)
	d.Arm(1, 1)
	isDown(t, d, true)
	for range 3 {
		writes(t, d, 0, "b", false)
	}
	holds(t, d, "")
	d.Revive()
	isDown(t, d, false)
	writes(t, d, 0, "cc", true)
	writes(t, d, 0, "dd", false)
	isDown(t, d, true)
	holds(t, d, "dc")
}

// P5.3: Revive of a disk that is up leaves it armed, and changes no sector.
func TestRevive(t *testing.T) {
	d := New(2)
	writes(t, d, 1, "b", true)
	d.Revive()
	isDown(t, d, false)
	d.Arm(1, 1)
	d.Revive()
	writes(t, d, 0, "a", true)
	d.Revive()
	holds(t, d, "a", "b")
	writes(t, d, 0, "xx", false)
	isDown(t, d, true)
	d.Revive()
	d.Revive()
	isDown(t, d, false)
	holds(t, d, "x", "b")
}

// P5.3: a copy is the same: sectors, what is armed, and whether it is down; neither touches the other.
func TestCopy(t *testing.T) {
	for _, first := range []bool{true, false} {
		d := New(3)
		writes(t, d, 0, "a", true)
		d.Arm(2, 1)
		writes(t, d, 1, "b", true)
		one, other := d.Copy(), d
		if first {
			one, other = d, one
		}
		if one == other {
			t.Fatal("it is the same disk")
		}
		holds(t, one, "a", "b", "")
		holds(t, other, "a", "b", "")
		writes(t, one, 2, "c", true)
		holds(t, other, "a", "b", "")
		writes(t, one, 2, "dd", false)
		isDown(t, one, true)
		isDown(t, other, false)
		holds(t, one, "a", "b", "d")
		holds(t, other, "a", "b", "")
		writes(t, other, 0, "ee", true)
		writes(t, other, 0, "ff", false)
		isDown(t, other, true)
		holds(t, one, "a", "b", "d")
		holds(t, other, "fe", "b", "")
		other.Revive()
		isDown(t, one, true)
		isDown(t, other, false)
		one.Revive()
		one.Arm(0, 0)
		writes(t, other, 0, "gg", true)
		holds(t, one, "a", "b", "d")
	}
}

// P5.3: a copy of a disk that is down, and armed meanwhile.
func TestCopyDown(t *testing.T) {
	d := New(1)
	d.Arm(0, 1)
	writes(t, d, 0, "ab", false)
	plain := d.Copy()
	d.Arm(0, 2)
	armed := d.Copy()
	d.Revive()
	for _, c := range []*Disk{plain, armed} {
		isDown(t, c, true)
		writes(t, c, 0, "x", false)
		holds(t, c, "a")
		c.Revive()
	}
	writes(t, plain, 0, "xyz", true)
	writes(t, armed, 0, "xyz", false)
	holds(t, plain, "xyz")
	holds(t, armed, "xy")
	holds(t, d, "a")
}

// R2: what is written isn't kept, and what is answered is new.
func TestNewMemory(t *testing.T) {
	d := New(1)
	bytes := []byte(strings.Repeat("a", 32))
	writes(t, d, 0, unsafe.String(&bytes[0], 32), true)
	bytes[0] = 'z'
	holds(t, d, strings.Repeat("a", 32))
	got, _ := d.Read(0)
	next, _ := d.Read(0)
	if unsafe.StringData(got) == unsafe.StringData(next) {
		t.Error("two answers share their bytes")
	}
	writes(t, d, 0, "new", true)
	if got != strings.Repeat("a", 32) {
		t.Errorf("%q", got)
	}
}

// model is a disk as the chapter's words say it, each sector a text.
type model struct {
	texts []string
	down  bool
	done  int // writes so far
	torn  int // the one behind so many is torn; -1: none
	keep  int
}

func (m *model) write(i int, data string) bool {
	if m.down || i < 0 || i >= len(m.texts) || len(data) > 32 {
		return false
	}
	data = full(data)
	if m.done == m.torn {
		m.texts[i] = data[:m.keep] + m.texts[i][m.keep:]
		m.down, m.torn = true, -1
		return false
	}
	m.texts[i] = data
	m.done++
	return true
}

func (m *model) arm(n, keep int) {
	m.torn = m.done + max(n, 0)
	m.keep = min(max(keep, 0), 32)
}

func (m *model) copy() *model {
	c := *m
	c.texts = append([]string(nil), m.texts...)
	return &c
}

// same fails if a disk isn't as its model.
func same(t *testing.T, d *Disk, m *model) {
	t.Helper()
	if d.Down() != m.down || d.Sectors() != len(m.texts) {
		t.Fatal(d.Down(), d.Sectors())
	}
	n := 0
	for i, s := range d.All() {
		if got, ok := d.Read(i); s != m.texts[i] || got != s || !ok {
			t.Fatalf("sector %d: %q, %q, want %q", i, s, got, m.texts[i])
		}
		n++
	}
	if n != len(m.texts) {
		t.Fatal(n)
	}
}

// P5.1 to P5.3: many calls of some disks and of their copies, against the model.
func TestManyCalls(t *testing.T) {
	r := rand.New(rand.NewSource(1))
	for range 300 {
		n := 1 + r.Intn(4)
		disks := []*Disk{New(n)}
		models := []*model{{texts: strings.Split(strings.Repeat(full("")+",", n-1)+full(""), ","), torn: -1}}
		for range 200 {
			k := r.Intn(len(disks))
			d, m := disks[k], models[k]
			switch r.Intn(12) {
			case 0:
				writes, keep := r.Intn(6)-1, r.Intn(36)-2
				d.Arm(writes, keep)
				m.arm(writes, keep)
			case 1, 2:
				d.Revive()
				m.down = false
			case 3:
				if len(disks) < 5 {
					disks, models = append(disks, d.Copy()), append(models, m.copy())
				}
			default:
				i, data := r.Intn(n+2)-1, strings.Repeat(string(rune('a'+r.Intn(26))), r.Intn(api.Sector+3))
				if got, want := d.Write(i, data), m.write(i, data); got != want {
					t.Fatalf("write %d %q: %v", i, data, got)
				}
			}
			for k := range disks {
				same(t, disks[k], models[k])
			}
		}
	}
}

// The section 'Runs'.
func TestRuns(t *testing.T) {
	d := New(1)
	d.Arm(1, 2)
	writes(t, d, 0, "abc", true)
	writes(t, d, 0, "xyz", false)
	holds(t, d, "xyc")
	isDown(t, d, true)
}
