package bag

import (
	"iter"
	"maps"
	"math/rand"
	"slices"
	"strconv"
	"strings"
	"testing"
	"unsafe"

	"ammonite/api"
	"ammonite/blob"
	"ammonite/disk"
	"ammonite/hash"
	"ammonite/store"
)

// stock is what long contents here begin with.
var stock = strings.Repeat("what many contents have, ", 7)

// odd are texts that are no names.
var odd = []string{"", "x", sum("x")[:39], sum("x") + "0", strings.ToUpper(sum("x")), strings.Repeat("g", 40), "b" + sum("x"), " " + sum("x")}

// sum is a name for tests.
func sum(s string) string { return hash.Sum(s) }

// open is what a piece says that is not private.
func open(s string) api.Piece { return api.Piece{Name: sum(s), Content: s} }

// own is a private piece.
func own(s string) api.Piece { return api.Piece{Name: sum(s), Content: s, Private: true} }

// fresh answers an empty bag on a disk of all sectors.
func fresh() *Bag { return Open(disk.New(api.MaxSectors)) }

// state is what a bag should tell, by the contents of names.
type state struct {
	held, phantoms, shunned, private []string
}

// without answers all but one.
func without(ss []string, s string) []string {
	return slices.DeleteFunc(slices.Clone(ss), func(x string) bool { return x == s })
}

// names of contents, rising.
func names(contents []string) []string {
	var all []string
	for _, c := range contents {
		all = append(all, sum(c))
	}
	slices.Sort(all)
	return all
}

// walked fails if a walk doesn't go over these.
func walked(t *testing.T, what string, walk iter.Seq[string], want []string) {
	t.Helper()
	if got := slices.Collect(walk); !slices.Equal(got, want) {
		t.Errorf("%s: %.9q, want %.9q", what, got, want)
	}
}

// tells fails if a bag tells otherwise than s.
func tells(t *testing.T, b *Bag, s state) {
	t.Helper()
	var share []string
	for _, c := range s.held {
		if !slices.Contains(s.private, c) {
			share = append(share, c)
		}
	}
	walked(t, "names", b.Names(), names(s.held))
	walked(t, "phantoms", b.Phantoms(), names(s.phantoms))
	walked(t, "shunned", b.Shunned(), names(s.shunned))
	walked(t, "share", b.Share(), names(share))
	for _, c := range slices.Concat(s.held, s.phantoms, s.shunned, []string{"nobody's"}) {
		m := api.Marks{Held: slices.Contains(s.held, c), Phantom: slices.Contains(s.phantoms, c), Private: slices.Contains(s.private, c), Shunned: slices.Contains(s.shunned, c)}
		if got := b.Marks(sum(c)); got != m {
			t.Errorf("%.20q: %v, want %v", c, got, m)
		}
		content, ok := b.Content(sum(c))
		if ok != m.Held || ok && content != c || !ok && content != "" {
			t.Errorf("%.20q has %.20q, %v", c, content, ok)
		}
	}
	if !b.Good() {
		t.Error("not good")
	}
}

// is fails if a bag, or one that is opened anew, tells otherwise than s.
func is(t *testing.T, b *Bag, s state) {
	t.Helper()
	tells(t, b, s)
	tells(t, Open(b.Disk()), s)
}

// says fails if a call answered another error.
func says(t *testing.T, got, want api.Errno) {
	t.Helper()
	if got != want {
		t.Errorf("error %d, want %d", got, want)
	}
}

// add fails if a content isn't held then under its name.
func add(t *testing.T, b *Bag, content string, private bool) string {
	t.Helper()
	name, e := b.Add(content, private)
	if name != sum(content) || e != api.OK {
		t.Fatalf("add %.20q: %q, %d", content, name, e)
	}
	return name
}

// lines are all sectors of a disk.
func lines(d *disk.Disk) []string {
	var all []string
	for _, s := range d.All() {
		all = append(all, s)
	}
	return all
}

// commits tells how many transactions there are.
func commits(b *Bag) int { return store.Open(b.Disk()).Journal().Len() }

// changes fails if a call makes another number of commits, or another error.
func changes(t *testing.T, b *Bag, n int, want api.Errno, call func() api.Errno) {
	t.Helper()
	before, was := commits(b), lines(b.Disk())
	says(t, call(), want)
	if got := commits(b) - before; got != n {
		t.Errorf("%d commits, want %d", got, n)
	}
	if n == 0 && !slices.Equal(lines(b.Disk()), was) {
		t.Error("written")
	}
}

// P9.1: nothing is there at first; the disk is the one that was given.
func TestOpenNew(t *testing.T) {
	for _, n := range []int{-1, 1, 2, 500, api.MaxSectors} {
		d := disk.New(n)
		b := Open(d)
		is(t, b, state{})
		if b.Disk() != d || commits(b) != 0 {
			t.Error("disk")
		}
		for _, name := range odd {
			if c, ok := b.Content(name); c != "" || ok || b.Marks(name) != (api.Marks{}) {
				t.Errorf("%q: %q, %v, %v", name, c, ok, b.Marks(name))
			}
		}
	}
}

// P9.1: names of all kinds rise, whatever the order in which they came.
func TestOpenRises(t *testing.T) {
	b := fresh()
	var want state
	for i := range 10 {
		c := strconv.Itoa(i)
		add(t, b, "held "+c, i%2 == 0)
		says(t, b.Give(nil, sum("want "+c)), api.OK)
		says(t, b.Shun(sum("shun "+c)), api.OK)
		want.held = append(want.held, "held "+c)
		want.phantoms = append(want.phantoms, "want "+c)
		want.shunned = append(want.shunned, "shun "+c)
		if i%2 == 0 {
			want.private = append(want.private, "held "+c)
		}
	}
	is(t, b, want)
	for _, name := range odd {
		if c, ok := b.Content(name); c != "" || ok || b.Marks(name) != (api.Marks{}) {
			t.Errorf("%q: %q, %v", name, c, ok)
		}
	}
}

// P9.1: contents of any bytes, the empty one and the longest ones among them.
func TestOpenContents(t *testing.T) {
	b := fresh()
	var want state
	for _, c := range []string{"", "\x00", "f", "d" + sum("x"), "line\n\nline\r", "\xff\xfe", strings.Repeat("m", api.MaxArtifact), stock, stock + "!"} {
		add(t, b, c, false)
		want.held = append(want.held, c)
		is(t, b, want)
	}
}

// P9.1, R2: a walk goes as long as it is asked for, over what there is when it begins, and may be walked again.
func TestWalks(t *testing.T) {
	contents := []string{"a", "b", "c", "d"}
	for k, walk := range []func(b *Bag) iter.Seq[string]{(*Bag).Names, (*Bag).Phantoms, (*Bag).Shunned, (*Bag).Share} {
		b := fresh()
		w := walk(b)
		walked(t, "none", w, nil)
		for _, c := range contents {
			switch k {
			case 0, 3:
				add(t, b, c, false)
			case 1:
				says(t, b.Give(nil, sum(c)), api.OK)
			case 2:
				says(t, b.Shun(sum(c)), api.OK)
			}
		}
		want := names(contents)
		for most := 1; most <= 5; most++ {
			var got []string
			w(func(name string) bool {
				got = append(got, name)
				return len(got) < most
			})
			if !slices.Equal(got, want[:min(most, 4)]) {
				t.Errorf("%d, at most %d: %q", k, most, got)
			}
		}
		var got []string
		for name := range w {
			got = append(got, name)
			turned(t, b, k, contents)
			for range w {
				break
			}
		}
		if !slices.Equal(got, want) {
			t.Errorf("%d turned: %q", k, got)
		}
		if again := slices.Collect(w); slices.Equal(again, want) || !slices.IsSorted(again) {
			t.Errorf("%d again: %q", k, again)
		}
	}
}

// turned does what turns what a walk of kind k would go over: all is another one, and one comes.
func turned(t *testing.T, b *Bag, k int, contents []string) {
	t.Helper()
	for _, c := range contents {
		switch k {
		case 0:
			says(t, b.Shun(sum(c)), api.OK)
		case 1:
			add(t, b, c, false)
		case 2:
			b.Unshun(sum(c))
		case 3:
			says(t, b.Mark(sum(c), true), api.OK)
		}
	}
	switch k {
	case 0, 3:
		add(t, b, "new", false)
	case 1:
		says(t, b.Give(nil, sum("new")), api.OK)
	case 2:
		says(t, b.Shun(sum("new")), api.OK)
	}
}

// onto answers a bag of a store to which rows were committed.
func onto(t *testing.T, b *Bag, rows ...api.Row) *Bag {
	t.Helper()
	says(t, store.Open(b.Disk()).Commit(rows...), api.OK)
	return Open(b.Disk())
}

// P9.1: a bag isn't good if a content isn't its name's, or there is none.
func TestGoodContents(t *testing.T) {
	for i, value := range []string{"", "q", "f", "fnot x", "d" + sum("y") + "1\n1:x~;", "d" + sum("x") + "0\n0;"} {
		b := fresh()
		add(t, b, "y", false)
		if b = onto(t, b, api.Row{Key: "b" + sum("x"), Value: value}); b.Good() {
			t.Errorf("%d: good", i)
		}
	}
	b := onto(t, fresh(), api.Row{Key: "b" + sum("x"), Value: "fx"})
	is(t, b, state{held: []string{"x"}})
}

// P9.1: what has a row but no content isn't held.
func TestHeldHasContent(t *testing.T) {
	b := fresh()
	says(t, b.Give(nil, sum("x")), api.OK)
	b = onto(t, b, api.Row{Key: "b" + sum("x"), Value: "q"}, api.Row{Key: "b" + sum("z"), Value: "d" + sum("x") + "0\n0;"})
	walked(t, "names", b.Names(), nil)
	walked(t, "share", b.Share(), nil)
	walked(t, "phantoms", b.Phantoms(), names([]string{"x"}))
	if b.Marks(sum("x")) != (api.Marks{Phantom: true}) || b.Marks(sum("z")) != (api.Marks{}) || b.Good() {
		t.Error(b.Marks(sum("x")), b.Marks(sum("z")))
	}
	says(t, b.Mark(sum("z"), true), api.ErrUnknown)
	says(t, b.Shun(sum("z")), api.OK)
	add(t, b, "x", false)
	is(t, b, state{held: []string{"x"}, shunned: []string{"z"}})
}

// P9.1: a phantom isn't held; so one whose content stands there is none.
func TestPhantomIsNotHeld(t *testing.T) {
	b := fresh()
	says(t, b.Give(nil, sum("x"), sum("y")), api.OK)
	b = onto(t, b, api.Row{Key: "b" + sum("x"), Value: "fx"})
	is(t, b, state{held: []string{"x"}, phantoms: []string{"y"}})
	says(t, b.Shun(sum("x")), api.OK)
	is(t, b, state{phantoms: []string{"y"}, shunned: []string{"x"}})
	says(t, b.Unshun(sum("x")), api.OK)
	is(t, b, state{phantoms: []string{"y"}})
}

// P9.1: a bag isn't good if what is shunned is held or a phantom, or what is private isn't held. Shunned ones aren't told of.
func TestGoodMarks(t *testing.T) {
	key := func(m mark, s string) api.Row { return api.Row{Key: string(m) + sum(s)} }
	for i, rows := range [][]api.Row{
		{key(shunMark, "a"), {Key: "b" + sum("a"), Value: "fa"}},
		{key(shunMark, "a"), key(wantMark, "a")},
		{key(privateMark, "a")},
		{key(privateMark, "a"), key(wantMark, "a")},
		{key(privateMark, "a"), key(shunMark, "a")},
	} {
		b := onto(t, fresh(), rows...)
		if b.Good() {
			t.Errorf("%d: good", i)
		}
		walked(t, "share", b.Share(), nil)
		says(t, b.Shun(sum("a")), api.OK)
		is(t, b, state{shunned: []string{"a"}})
	}
	b := onto(t, fresh(), key(privateMark, "a"))
	says(t, b.Give([]api.Piece{open("a"), own("b")}), api.OK)
	is(t, b, state{held: []string{"a", "b"}, private: []string{"b"}})
	// Keys of nobody's are no marks.
	for _, name := range odd {
		for _, m := range []mark{wantMark, privateMark, shunMark} {
			b = onto(t, b, api.Row{Key: string(m) + name})
		}
		b = onto(t, b, api.Row{Key: "b" + name, Value: "f" + name})
		if b.Marks(name) != (api.Marks{}) {
			t.Error(b.Marks(name))
		}
	}
	is(t, b, state{held: []string{"a", "b"}, private: []string{"b"}})
}

// P9.2: the first error of all, in their order; nothing changes.
func TestGiveRefuses(t *testing.T) {
	b := fresh()
	add(t, b, "held", false)
	says(t, b.Give(nil, sum("want")), api.OK)
	says(t, b.Shun(sum("shun")), api.OK)
	was := state{held: []string{"held"}, phantoms: []string{"want"}, shunned: []string{"shun"}}
	long := strings.Repeat("m", api.MaxArtifact+1)
	form := api.Piece{Name: "name", Content: "x"}
	wrong := api.Piece{Name: sum("x"), Content: "y"}
	good, shun := open("good"), open("shun")
	var many []string
	for i := range api.MaxHeld {
		many = append(many, sum(strconv.Itoa(i)))
	}
	for i, q := range []struct {
		ps    []api.Piece
		wants []string
		e     api.Errno
	}{
		{[]api.Piece{open(long)}, nil, api.ErrForm},
		{[]api.Piece{{Name: sum("shun"), Content: long}}, nil, api.ErrForm},
		{[]api.Piece{{Name: sum("held"), Content: long}}, nil, api.ErrForm},
		{[]api.Piece{form}, nil, api.ErrForm},
		{[]api.Piece{wrong}, nil, api.ErrHash},
		{[]api.Piece{{Name: sum("held"), Content: "other"}}, nil, api.ErrHash},
		{[]api.Piece{{Name: sum("shun"), Content: "other"}}, nil, api.ErrHash},
		{[]api.Piece{{Name: sum("x")}}, nil, api.ErrHash},
		{[]api.Piece{shun}, nil, api.ErrShun},
		{[]api.Piece{own("shun")}, nil, api.ErrShun},
		{nil, []string{"x"}, api.ErrForm},
		{[]api.Piece{good, form, wrong, shun}, []string{"x"}, api.ErrForm},
		{[]api.Piece{good, wrong, form, shun}, []string{"x"}, api.ErrHash},
		{[]api.Piece{good, shun, form, wrong}, []string{"x"}, api.ErrShun},
		{[]api.Piece{good, shun, open(long)}, []string{"x"}, api.ErrShun},
		{[]api.Piece{good, good, wrong}, many, api.ErrHash},
		{[]api.Piece{good, {Name: sum("good"), Content: "other"}}, nil, api.ErrHash},
		{[]api.Piece{good}, append(slices.Clone(many), "x"), api.ErrForm},
		{[]api.Piece{good}, []string{sum("new"), sum("new")[:39]}, api.ErrForm},
		{[]api.Piece{good}, many, api.ErrFull},
		{nil, many, api.ErrFull},
	} {
		changes(t, b, 0, q.e, func() api.Errno { return b.Give(q.ps, q.wants...) })
		is(t, b, was)
		if t.Failed() {
			t.Fatal(i)
		}
	}
	for _, name := range odd {
		says(t, b.Give([]api.Piece{{Name: name, Content: "x"}}), api.ErrForm)
		says(t, b.Give(nil, sum("new"), name), api.ErrForm)
	}
	is(t, b, was)
}

// P9.2: the store's error comes behind all others; a full disk, and one that goes down, change nothing.
func TestGiveStoreError(t *testing.T) {
	for n := 1; n <= 5; n++ {
		b := Open(disk.New(n))
		// One of two pieces has room, the other one hasn't.
		says(t, b.Give([]api.Piece{open("a"), open(strings.Repeat("b", 100))}), api.ErrFull)
		is(t, b, state{})
		says(t, b.Give([]api.Piece{{Name: sum("x"), Content: "y"}}), api.ErrHash)
		says(t, b.Give(nil, "x"), api.ErrForm)
		if name, e := b.Add(strings.Repeat("b", 200), true); name != "" || e != api.ErrFull {
			t.Error(name, e)
		}
	}
	b := fresh()
	b.Disk().Arm(0, 0)
	var many []string
	for i := range api.MaxHeld + 1 {
		many = append(many, sum(strconv.Itoa(i)))
	}
	says(t, b.Give(nil, many...), api.ErrFull)
	says(t, b.Give(nil, many[0]), api.ErrDown)
	says(t, b.Give(nil, many...), api.ErrFull)
	says(t, b.Give([]api.Piece{open(strings.Repeat("m", api.MaxArtifact+1))}), api.ErrForm)
	if name, e := b.Add("x", false); name != "" || e != api.ErrDown {
		t.Error(name, e)
	}
	b.Disk().Revive()
	is(t, b, state{})
	says(t, b.Give(nil, many[0]), api.ErrDown)
	b = Open(b.Disk())
	says(t, b.Give(nil, many[:api.MaxHeld]...), api.OK)
}

// P9.2: each piece that isn't held is, once, and private if the first of its name says so; it is no phantom any more.
func TestGivePieces(t *testing.T) {
	b := fresh()
	changes(t, b, 1, api.OK, func() api.Errno {
		return b.Give([]api.Piece{open("a"), own("a"), own("b"), open("b"), own("b"), open(""), own("c")}, sum("d"), sum("e"))
	})
	is(t, b, state{held: []string{"", "a", "b", "c"}, phantoms: []string{"d", "e"}, private: []string{"b", "c"}})
	changes(t, b, 1, api.OK, func() api.Errno {
		return b.Give([]api.Piece{own("d"), open("c"), own("a"), own("f"), open("e"), open("e")}, sum("d"))
	})
	is(t, b, state{held: []string{"", "a", "b", "c", "d", "e", "f"}, private: []string{"b", "c", "d", "f"}})
}

// P9.2: of wants those that are neither held nor shunned are phantoms, each once.
func TestGiveWants(t *testing.T) {
	b := fresh()
	add(t, b, "held", true)
	says(t, b.Shun(sum("shun")), api.OK)
	want := state{held: []string{"held"}, shunned: []string{"shun"}, private: []string{"held"}}
	changes(t, b, 0, api.OK, func() api.Errno { return b.Give(nil, sum("held"), sum("shun"), sum("held")) })
	is(t, b, want)
	changes(t, b, 1, api.OK, func() api.Errno {
		return b.Give([]api.Piece{open("new")}, sum("y"), sum("shun"), sum("x"), sum("new"), sum("y"), sum("held"))
	})
	want.held, want.phantoms = append(want.held, "new"), []string{"x", "y"}
	is(t, b, want)
	changes(t, b, 0, api.OK, func() api.Errno { return b.Give([]api.Piece{own("new")}, sum("y"), sum("x")) })
	changes(t, b, 1, api.OK, func() api.Errno { return b.Give(nil, sum("y"), sum("z")) })
	want.phantoms = append(want.phantoms, "z")
	is(t, b, want)
}

// P9.2: with nothing to be done a disk that is down, or full, doesn't matter.
func TestGiveNothing(t *testing.T) {
	b := Open(disk.New(8))
	add(t, b, "held", true)
	says(t, b.Give(nil, sum("want")), api.OK)
	says(t, b.Shun(sum("shun")), api.OK)
	want := state{held: []string{"held"}, phantoms: []string{"want"}, shunned: []string{"shun"}, private: []string{"held"}}
	for range 2 {
		for _, call := range []func() api.Errno{
			func() api.Errno { return b.Give(nil) },
			func() api.Errno { return b.Give([]api.Piece{}, []string{}...) },
			func() api.Errno { return b.Give([]api.Piece{open("held")}, sum("want"), sum("held"), sum("shun")) },
			func() api.Errno { return b.Shun(sum("shun")) },
			func() api.Errno { return b.Mark(sum("held"), true) },
			func() api.Errno { _, e := b.Add("held", false); return e },
		} {
			changes(t, b, 0, api.OK, call)
			tells(t, b, want)
		}
		if name, e := b.Add("held", false); name != sum("held") || e != api.OK {
			t.Error(name, e)
		}
		b.Disk().Arm(0, 0)
		if _, e := b.Add(strings.Repeat("n", 30), false); e != api.ErrDown && e != api.ErrFull {
			t.Error(e)
		}
	}
}

// P9.2: MaxHeld are held and phantoms, one more is refused, whichever it would be.
func TestGiveFull(t *testing.T) {
	for held := 0; held <= api.MaxHeld; held++ {
		b := fresh()
		var want state
		var ps []api.Piece
		for i := range api.MaxHeld {
			c := "text " + strconv.Itoa(i)
			if i < held {
				ps = append(ps, open(c))
				want.held = append(want.held, c)
			} else {
				want.phantoms = append(want.phantoms, c)
			}
		}
		changes(t, b, 0, api.ErrFull, func() api.Errno { return b.Give(ps, append(names(want.phantoms), sum("x"))...) })
		changes(t, b, 0, api.ErrFull, func() api.Errno { return b.Give(append(slices.Clone(ps), open("x")), names(want.phantoms)...) })
		is(t, b, state{})
		changes(t, b, 1, api.OK, func() api.Errno { return b.Give(ps, names(want.phantoms)...) })
		is(t, b, want)
		changes(t, b, 0, api.ErrFull, func() api.Errno { return b.Give(nil, sum("x")) })
		changes(t, b, 0, api.ErrFull, func() api.Errno { _, e := b.Add("x", false); return e })
		changes(t, b, 0, api.OK, func() api.Errno { return b.Give(ps, names(want.phantoms)...) })
		if held < api.MaxHeld {
			// A phantom that comes takes no more room than it had.
			says(t, b.Give([]api.Piece{open(want.phantoms[0])}), api.OK)
			want.held, want.phantoms = append(want.held, want.phantoms[0]), want.phantoms[1:]
		}
		says(t, b.Shun(sum(want.held[0])), api.OK)
		says(t, b.Give(nil, sum(want.held[0]), sum("x")), api.OK)
		changes(t, b, 0, api.ErrFull, func() api.Errno { return b.Give(nil, sum("y")) })
		want.shunned, want.held, want.phantoms = want.held[:1], want.held[1:], append(want.phantoms, "x")
		is(t, b, want)
	}
}

// P9.2: a name that is given and wanted, or given twice, counts once.
func TestGiveCountsOnce(t *testing.T) {
	b := fresh()
	var all []string
	for i := range api.MaxHeld - 1 {
		all = append(all, strconv.Itoa(i))
		add(t, b, all[i], false)
	}
	all = append(all, "last")
	says(t, b.Give([]api.Piece{open("last"), open("last"), open("0")}, sum("last"), sum("1"), sum("last")), api.OK)
	is(t, b, state{held: all})
	says(t, b.Give([]api.Piece{open("0"), open("one more")}), api.ErrFull)
	is(t, b, state{held: all})
}

// P9.2: Add answers the name, of what is held, too; else Give's error, and no name.
func TestAdd(t *testing.T) {
	b := fresh()
	changes(t, b, 1, api.OK, func() api.Errno { _, e := b.Add("x", true); return e })
	add(t, b, "x", false)
	add(t, b, "y", false)
	add(t, b, "y", true)
	says(t, b.Give(nil, sum("z")), api.OK)
	is(t, b, state{held: []string{"x", "y"}, phantoms: []string{"z"}, private: []string{"x"}})
	add(t, b, "z", true)
	says(t, b.Shun(sum("y")), api.OK)
	for content, want := range map[string]api.Errno{"y": api.ErrShun, strings.Repeat("y", api.MaxArtifact+1): api.ErrForm, strings.Repeat("y", 5000): api.ErrForm} {
		changes(t, b, 0, want, func() api.Errno {
			name, e := b.Add(content, false)
			if name != "" {
				t.Error(name)
			}
			return e
		})
	}
	is(t, b, state{held: []string{"x", "z"}, shunned: []string{"y"}, private: []string{"x", "z"}})
	add(t, b, strings.Repeat("y", api.MaxArtifact), false)
}

// P9.2: of what is held Add answers the name, though it couldn't be given any more; rows of others made it so.
func TestAddHeld(t *testing.T) {
	b := fresh()
	long := strings.Repeat("m", api.MaxArtifact+1)
	contents := []string{long}
	for i := range api.MaxHeld {
		contents = append(contents, strconv.Itoa(i))
	}
	for _, c := range contents {
		b = onto(t, b, api.Row{Key: "b" + sum(c), Value: "f" + c})
	}
	for _, c := range contents {
		changes(t, b, 0, api.OK, func() api.Errno { add(t, b, c, true); return api.OK })
	}
	changes(t, b, 0, api.ErrFull, func() api.Errno { return b.Give([]api.Piece{open("0")}) })
	changes(t, b, 0, api.ErrForm, func() api.Errno { return b.Give([]api.Piece{open(long)}) })
	is(t, b, state{held: contents})
	says(t, b.Shun(sum(long)), api.OK)
	changes(t, b, 0, api.OK, func() api.Errno { return b.Give([]api.Piece{open("0")}) })
}

// P9.2: a want that comes twice, or is given besides, is written no more than once.
func TestGiveWritesOnce(t *testing.T) {
	text := func(ps []api.Piece, wants ...string) string {
		b := fresh()
		says(t, b.Give(ps, wants...), api.OK)
		return strings.Join(lines(b.Disk()), "")
	}
	if text(nil, sum("x"), sum("y"), sum("x")) != text(nil, sum("x"), sum("y")) {
		t.Error("a want twice")
	}
	if text([]api.Piece{open("x"), own("x")}, sum("x")) != text([]api.Piece{open("x")}) {
		t.Error("a piece that is wanted")
	}
}

// P9.3: whatever a name was, it is shunned alone.
func TestShun(t *testing.T) {
	b := fresh()
	add(t, b, "held", false)
	add(t, b, "private", true)
	add(t, b, "other", true)
	says(t, b.Give(nil, sum("want"), sum("another")), api.OK)
	want := state{held: []string{"other"}, phantoms: []string{"another"}, shunned: []string{"held", "private", "want", "nowhere"}, private: []string{"other"}}
	for _, c := range want.shunned {
		changes(t, b, 1, api.OK, func() api.Errno { return b.Shun(sum(c)) })
	}
	is(t, b, want)
	for _, c := range want.shunned {
		changes(t, b, 0, api.OK, func() api.Errno { return b.Shun(sum(c)) })
	}
	for _, name := range odd {
		changes(t, b, 0, api.ErrForm, func() api.Errno { return b.Shun(name) })
	}
	is(t, b, want)
	// Nothing of what it was comes again.
	for _, c := range want.shunned {
		changes(t, b, 1, api.OK, func() api.Errno { return b.Unshun(sum(c)) })
		changes(t, b, 0, api.ErrUnknown, func() api.Errno { return b.Unshun(sum(c)) })
	}
	want.shunned = nil
	is(t, b, want)
	add(t, b, "private", false)
	want.held = append(want.held, "private")
	is(t, b, want)
}

// P9.3: MaxHeld are shunned, one more is refused, one of them isn't; a text that is no name is that first.
func TestShunFull(t *testing.T) {
	b := fresh()
	var want state
	for i := range api.MaxHeld {
		c := strconv.Itoa(i)
		want.shunned = append(want.shunned, c)
		says(t, b.Shun(sum(c)), api.OK)
	}
	add(t, b, "held", true)
	want.held, want.private = []string{"held"}, []string{"held"}
	changes(t, b, 0, api.ErrFull, func() api.Errno { return b.Shun(sum("held")) })
	changes(t, b, 0, api.ErrFull, func() api.Errno { return b.Shun(sum("nowhere")) })
	changes(t, b, 0, api.ErrForm, func() api.Errno { return b.Shun("x") })
	for _, c := range want.shunned {
		changes(t, b, 0, api.OK, func() api.Errno { return b.Shun(sum(c)) })
	}
	is(t, b, want)
	says(t, b.Unshun(sum("7")), api.OK)
	says(t, b.Shun(sum("held")), api.OK)
	is(t, b, state{shunned: append(without(want.shunned, "7"), "held")})
	changes(t, b, 0, api.ErrFull, func() api.Errno { return b.Shun(sum("7")) })
}

// P9.3: only what is shunned can be unshunned, and only what is held can be marked.
func TestUnknown(t *testing.T) {
	b := fresh()
	add(t, b, "held", true)
	says(t, b.Give(nil, sum("want")), api.OK)
	says(t, b.Shun(sum("shun")), api.OK)
	want := state{held: []string{"held"}, phantoms: []string{"want"}, shunned: []string{"shun"}, private: []string{"held"}}
	for _, name := range append([]string{sum("held"), sum("want"), sum("nowhere")}, odd...) {
		changes(t, b, 0, api.ErrUnknown, func() api.Errno { return b.Unshun(name) })
	}
	for _, name := range append([]string{sum("want"), sum("shun"), sum("nowhere")}, odd...) {
		for _, private := range []bool{true, false} {
			changes(t, b, 0, api.ErrUnknown, func() api.Errno { return b.Mark(name, private) })
		}
	}
	is(t, b, want)
}

// P9.3: a held one is private, or not, as often as it is said.
func TestMark(t *testing.T) {
	b := fresh()
	add(t, b, "a", false)
	add(t, b, "b", true)
	changes(t, b, 1, api.OK, func() api.Errno { return b.Mark(sum("a"), true) })
	is(t, b, state{held: []string{"a", "b"}, private: []string{"a", "b"}})
	changes(t, b, 1, api.OK, func() api.Errno { return b.Mark(sum("b"), false) })
	is(t, b, state{held: []string{"a", "b"}, private: []string{"a"}})
	says(t, b.Mark(sum("b"), false), api.OK)
	says(t, b.Mark(sum("a"), true), api.OK)
	is(t, b, state{held: []string{"a", "b"}, private: []string{"a"}})
	changes(t, b, 1, api.OK, func() api.Errno { return b.Mark(sum("a"), false) })
	is(t, b, state{held: []string{"a", "b"}})
}

// P9.3: the store's error: of a full disk, and of one that is down.
func TestMarksStoreError(t *testing.T) {
	for _, down := range []bool{false, true} {
		b := Open(disk.New(30))
		add(t, b, "a", false)
		says(t, b.Shun(sum("b")), api.OK)
		want := state{held: []string{"a"}, shunned: []string{"b"}}
		refusal := api.ErrFull
		if down {
			b.Disk().Arm(0, 9)
			refusal = api.ErrDown
			says(t, b.Shun(sum("c")), refusal)
		}
		for i := 0; !down && store.Open(b.Disk()).Journal().End() < 29; i++ {
			c := strconv.Itoa(i)
			says(t, b.Give(nil, sum(c)), api.OK)
			want.phantoms = append(want.phantoms, c)
		}
		for _, call := range []func() api.Errno{
			func() api.Errno { return b.Shun(sum("a")) },
			func() api.Errno { return b.Shun(sum("c")) },
			func() api.Errno { return b.Unshun(sum("b")) },
			func() api.Errno { return b.Mark(sum("a"), true) },
		} {
			says(t, call(), refusal)
			is(t, b, want)
		}
	}
}

// The whole's first example: a delta of what it is like; that one is shunned: it is whole again.
func TestDeltas(t *testing.T) {
	b := fresh()
	var want state
	deep := 0
	for i := range 12 {
		c := stock + strconv.Itoa(i)
		add(t, b, c, i%3 == 0)
		want.held = append(want.held, c)
		if i%3 == 0 {
			want.private = append(want.private, c)
		}
		s := store.Open(b.Disk())
		row, _ := s.Get("b" + sum(c))
		if i > 0 && (row[0] != 'd' || len(row) > 80) {
			t.Errorf("%d: %.60q", i, row)
		}
		deep = max(deep, blob.Depth(s, sum(c)))
	}
	if deep < 1 || deep > api.MaxChain {
		t.Error(deep)
	}
	for len(want.held) > 0 {
		is(t, b, want)
		c := want.held[0]
		changes(t, b, 1, api.OK, func() api.Errno { return b.Shun(sum(c)) })
		want.held, want.private, want.shunned = want.held[1:], without(want.private, c), append(want.shunned, c)
	}
	is(t, b, want)
}

// A content stands on the one that makes it the shortest.
func TestDeltaOfTheMostAlike(t *testing.T) {
	half := strings.Repeat("0123456789", 10)
	b := fresh()
	for _, c := range []string{half, stock, half + stock, "short"} {
		add(t, b, c, false)
	}
	add(t, b, half+stock+"!", false)
	if v, _ := store.Open(b.Disk()).Get("b" + sum(half+stock+"!")); v[:41] != "d"+sum(half+stock) {
		t.Errorf("%.60q", v)
	}
	add(t, b, "quite another one, which is like none of those ahead of it", false)
	if v, _ := store.Open(b.Disk()).Get("b" + sum("quite another one, which is like none of those ahead of it")); v[0] != 'f' {
		t.Errorf("%.60q", v)
	}
}

// P9.4: torn at each write and byte of each call: as it was ahead of the commit, or behind it.
func TestTorn(t *testing.T) {
	first := state{held: []string{stock, stock + "1", "p"}, phantoms: []string{"w", stock + "2"}, shunned: []string{"s"}, private: []string{"p"}}
	begin := func() *Bag {
		b := Open(disk.New(120))
		b.Give([]api.Piece{open(stock), own("p")}, sum("w"), sum(stock+"2"))
		b.Add(stock+"1", false)
		b.Shun(sum("s"))
		return b
	}
	is(t, begin(), first)
	for k, q := range []struct {
		call func(b *Bag) api.Errno
		then state
	}{
		{func(b *Bag) api.Errno { return b.Give([]api.Piece{own(stock + "2"), open("n")}, sum("v")) },
			state{held: []string{stock, stock + "1", stock + "2", "p", "n"}, phantoms: []string{"v", "w"}, shunned: []string{"s"}, private: []string{"p", stock + "2"}}},
		{func(b *Bag) api.Errno { _, e := b.Add("w", true); return e },
			state{held: []string{stock, stock + "1", "p", "w"}, phantoms: []string{stock + "2"}, shunned: []string{"s"}, private: []string{"p", "w"}}},
		{func(b *Bag) api.Errno { return b.Shun(sum(stock)) },
			state{held: []string{stock + "1", "p"}, phantoms: first.phantoms, shunned: []string{"s", stock}, private: first.private}},
		{func(b *Bag) api.Errno { return b.Shun(sum("p")) },
			state{held: []string{stock, stock + "1"}, phantoms: first.phantoms, shunned: []string{"s", "p"}}},
		{func(b *Bag) api.Errno { return b.Shun(sum("w")) },
			state{held: first.held, phantoms: []string{stock + "2"}, shunned: []string{"s", "w"}, private: first.private}},
		{func(b *Bag) api.Errno { return b.Unshun(sum("s")) },
			state{held: first.held, phantoms: first.phantoms, private: first.private}},
		{func(b *Bag) api.Errno { return b.Mark(sum(stock), true) },
			state{held: first.held, phantoms: first.phantoms, shunned: first.shunned, private: []string{"p", stock}}},
		{func(b *Bag) api.Errno { return b.Mark(sum("p"), false) },
			state{held: first.held, phantoms: first.phantoms, shunned: first.shunned}},
	} {
		tornAt(t, k, begin, q.call, first, q.then)
	}
}

// tornAt tears a call at all places: it is done only if its last sector was wholly written, and can be done again.
func tornAt(t *testing.T, k int, begin func() *Bag, call func(b *Bag) api.Errno, first, then state) {
	t.Helper()
	b := begin()
	end := store.Open(b.Disk()).Journal().End()
	changes(t, b, 1, api.OK, func() api.Errno { return call(b) })
	is(t, b, then)
	n := store.Open(b.Disk()).Journal().End() - end
	for writes := range n {
		for _, keep := range []int{0, 1, 2, 15, 30, 31, 32} {
			b := begin()
			b.Disk().Arm(writes, keep)
			says(t, call(b), api.ErrDown)
			tells(t, b, first)
			b.Disk().Revive()
			says(t, call(b), api.ErrDown)
			tells(t, b, first)
			o := Open(b.Disk())
			if writes == n-1 && keep == api.Sector {
				tells(t, o, then)
			} else {
				tells(t, o, first)
				says(t, call(o), api.OK)
				is(t, o, then)
			}
			if t.Failed() {
				t.Fatal(k, writes, keep)
			}
		}
	}
	b = begin()
	b.Disk().Arm(n, 0)
	says(t, call(b), api.OK)
	is(t, b, then)
}

// told is all that a bag tells of names.
func told(b *Bag) string {
	var all []string
	for _, walk := range []iter.Seq[string]{b.Names(), b.Phantoms(), b.Shunned(), b.Share()} {
		all = append(all, strings.Join(slices.Collect(walk), " "))
	}
	return strings.Join(all, "|")
}

// should is the same of what a bag should tell.
func should(s state) string {
	var share []string
	for _, c := range s.held {
		if !slices.Contains(s.private, c) {
			share = append(share, c)
		}
	}
	var all []string
	for _, l := range [][]string{s.held, s.phantoms, s.shunned, share} {
		all = append(all, strings.Join(names(l), " "))
	}
	return strings.Join(all, "|")
}

// model is a bag as sets of contents.
type model struct {
	held, phantoms, shunned, private map[string]int
}

// newModel answers one of nothing.
func newModel() model {
	return model{map[string]int{}, map[string]int{}, map[string]int{}, map[string]int{}}
}

// copied answers a model of its own.
func (m model) copied() model {
	return model{maps.Clone(m.held), maps.Clone(m.phantoms), maps.Clone(m.shunned), maps.Clone(m.private)}
}

// state answers what a bag should tell.
func (m model) state() state {
	return state{slices.Collect(maps.Keys(m.held)), slices.Collect(maps.Keys(m.phantoms)), slices.Collect(maps.Keys(m.shunned)), slices.Collect(maps.Keys(m.private))}
}

// give does what Give does, of right pieces: the error.
func (m model) give(ps []api.Piece, wants []string) api.Errno {
	for _, p := range ps {
		if _, no := m.shunned[p.Content]; no {
			return api.ErrShun
		}
	}
	for _, p := range ps {
		if _, there := m.held[p.Content]; there {
			continue
		}
		m.held[p.Content] = 1
		delete(m.phantoms, p.Content)
		if p.Private {
			m.private[p.Content] = 1
		}
	}
	for _, c := range wants {
		if m.held[c]+m.shunned[c] == 0 {
			m.phantoms[c] = 1
		}
	}
	if len(m.held)+len(m.phantoms) > api.MaxHeld {
		return api.ErrFull
	}
	return api.OK
}

// shun does what Shun does.
func (m model) shun(c string) api.Errno {
	m.shunned[c] = 1
	if len(m.shunned) > api.MaxHeld {
		return api.ErrFull
	}
	delete(m.held, c)
	delete(m.phantoms, c)
	delete(m.private, c)
	return api.OK
}

// step does one operation, by chance, on a bag and a model: their errors.
func step(r *rand.Rand, b *Bag, m model, pick func() string) (got, want api.Errno) {
	c := pick()
	switch r.Intn(8) {
	case 0, 1, 2:
		var ps []api.Piece
		var wants, wanted []string
		for range r.Intn(4) {
			c := pick()
			ps = append(ps, api.Piece{Name: sum(c), Content: c, Private: r.Intn(3) == 0})
		}
		for range r.Intn(4) {
			wanted = append(wanted, pick())
			wants = append(wants, sum(wanted[len(wanted)-1]))
		}
		return b.Give(ps, wants...), m.give(ps, wanted)
	case 3, 4:
		private := r.Intn(2) == 0
		name, e := b.Add(c, private)
		if e == api.OK && name != sum(c) || e != api.OK && name != "" {
			return -1, api.OK
		}
		if m.held[c] == 1 {
			return e, api.OK
		}
		return e, m.give([]api.Piece{{Content: c, Private: private}}, nil)
	case 5:
		return b.Shun(sum(c)), m.shun(c)
	case 6:
		if m.shunned[c] == 0 {
			return b.Unshun(sum(c)), api.ErrUnknown
		}
		delete(m.shunned, c)
		return b.Unshun(sum(c)), api.OK
	}
	private := r.Intn(2) == 0
	if m.held[c] == 0 {
		return b.Mark(sum(c), private), api.ErrUnknown
	}
	delete(m.private, c)
	if private {
		m.private[c] = 1
	}
	return b.Mark(sum(c), private), api.OK
}

// P9.1 to P9.4: many operations, held against sets, with tears among them.
func TestMany(t *testing.T) {
	r := rand.New(rand.NewSource(9))
	for round := range 40 {
		kinds := 10 + r.Intn(60)
		pick := func() string {
			n := r.Intn(kinds)
			return strings.Repeat(stock[:100], n%3) + strconv.Itoa(n)
		}
		b, m := Open(disk.New(200+r.Intn(1800))), newModel()
		for range 80 {
			if r.Intn(9) == 0 {
				b.Disk().Arm(r.Intn(8), r.Intn(33))
			}
			before := m.copied()
			got, want := step(r, b, m, pick)
			if got == api.ErrDown {
				tells(t, b, before.state())
				b.Disk().Revive()
				b = Open(b.Disk())
				if told(b) != should(m.state()) {
					m = before
				}
			} else if got != api.OK {
				m = before
			}
			if got != want && got != api.ErrDown && got != api.ErrFull {
				t.Errorf("error %d, want %d", got, want)
			}
			is(t, b, m.state())
			if n := len(m.held) + len(m.phantoms) + len(m.shunned) + len(m.private); store.Open(b.Disk()).Len() != n {
				t.Error("rows beside the", n)
			}
			if t.Failed() {
				t.Fatal(round)
			}
		}
	}
}

// R1: disks of any rows, calls with any texts: all ends, nothing panics.
func TestAnyRows(t *testing.T) {
	r := rand.New(rand.NewSource(4))
	few := []string{sum("a"), sum("b"), sum("c"), sum("d"), "", "x", strings.Repeat("g", 40)}
	pick := func() string { return few[r.Intn(len(few))] }
	for range 300 {
		s := store.Open(disk.New(200))
		for range r.Intn(12) {
			value := []string{"", "f", "fa", "fb", "d" + pick() + "1\n1:a~;", "d" + pick(), "d" + pick() + "0\n0;"}[r.Intn(7)]
			s.Commit(api.Row{Key: "bwpsx"[r.Intn(5):][:1] + pick(), Value: value, Gone: r.Intn(9) == 0})
		}
		b := Open(s.Journal().Disk())
		for range 8 {
			name := pick()
			b.Give([]api.Piece{open("a"), {Name: name, Content: "b"}}[:r.Intn(3)], pick())
			b.Shun(pick())
			b.Unshun(pick())
			b.Mark(pick(), r.Intn(2) == 0)
			b.Add(pick(), true)
			m := b.Marks(name)
			if _, held := b.Content(name); held != m.Held || held != slices.Contains(slices.Collect(b.Names()), name) {
				t.Fatal("held")
			}
			if m.Phantom != slices.Contains(slices.Collect(b.Phantoms()), name) || m.Phantom && m.Held {
				t.Fatal("phantom")
			}
			if m.Shunned != slices.Contains(slices.Collect(b.Shunned()), name) {
				t.Fatal("shunned")
			}
			if slices.Contains(slices.Collect(b.Share()), name) != (m.Held && !m.Private && !m.Shunned) {
				t.Fatal("share")
			}
			o := Open(b.Disk())
			if told(o) != told(b) || o.Good() != b.Good() || o.Marks(name) != m {
				t.Fatal("anew")
			}
		}
	}
}

// Two bags on two disks don't touch one another; one on a copy goes its own way.
func TestTwoBags(t *testing.T) {
	a := fresh()
	add(t, a, "x", false)
	b := Open(a.Disk().Copy())
	says(t, b.Shun(sum("x")), api.OK)
	add(t, a, "y", true)
	is(t, a, state{held: []string{"x", "y"}, private: []string{"y"}})
	is(t, b, state{shunned: []string{"x"}})
}

// R2: what is handed in is neither changed nor kept, room behind it included; what is answered is new memory.
func TestMemory(t *testing.T) {
	b := fresh()
	text := func(b []byte) string { return unsafe.String(&b[0], len(b)) }
	bytes := [][]byte{[]byte(sum(stock)), []byte(stock), []byte(sum("want")), []byte(sum("shun")), []byte("added"), []byte(stock + "!")}
	ps := []api.Piece{{Name: text(bytes[0]), Content: text(bytes[1])}, {Name: "behind", Content: "that"}}
	wants := []string{text(bytes[2]), "behind"}
	says(t, b.Give(ps[:1], wants[:1]...), api.OK)
	says(t, b.Shun(text(bytes[3])), api.OK)
	name, _ := b.Add(text(bytes[4]), true)
	b.Add(text(bytes[5]), false)
	if ps[1] != (api.Piece{Name: "behind", Content: "that"}) || wants[1] != "behind" || ps[0] != open(stock) || wants[0] != sum("want") {
		t.Error(ps, wants)
	}
	for _, x := range bytes {
		clear(x)
	}
	want := state{held: []string{stock, stock + "!", "added"}, phantoms: []string{"want"}, shunned: []string{"shun"}, private: []string{"added"}}
	is(t, b, want)
	seen := map[*byte]int{unsafe.StringData(name): 1}
	check := func(s string) {
		t.Helper()
		if seen[unsafe.StringData(s)]++; seen[unsafe.StringData(s)] > 1 {
			t.Errorf("shared: %.50q", s)
		}
	}
	var kept []string
	for range 2 {
		for _, walk := range []iter.Seq[string]{b.Names(), b.Phantoms(), b.Shunned(), b.Share()} {
			for name := range walk {
				kept = append(kept, name)
				check(name)
				if content, ok := b.Content(name); ok {
					kept = append(kept, content)
					check(content)
				}
			}
		}
	}
}

// The section 'Runs'.
func TestRuns(t *testing.T) {
	b := fresh()
	name := add(t, b, "x", false)
	says(t, b.Shun(name), api.OK)
	if n, e := b.Add("x", false); n != "" || e != api.ErrShun {
		t.Error(n, e)
	}
	says(t, b.Unshun(name), api.OK)
	add(t, b, "x", false)
	is(t, b, state{held: []string{"x"}})
}
