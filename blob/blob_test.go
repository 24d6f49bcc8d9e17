package blob

import (
	"math/rand"
	"slices"
	"strconv"
	"strings"
	"testing"
	"unsafe"

	"ammonite/api"
	"ammonite/delta"
	"ammonite/disk"
	"ammonite/hash"
	"ammonite/store"
)

// stock is what most contents here begin with: a delta of one by another is short.
var stock = strings.Repeat("what many contents have, ", 7)

// sum is a name for tests.
func sum(s string) string { return hash.Sum(s) }

// fresh answers a store with rows.
func fresh(t *testing.T, rows ...api.Row) *store.Store {
	t.Helper()
	s := store.Open(disk.New(api.MaxSectors))
	commit(t, s, rows...)
	return s
}

// commit fails if rows are not done.
func commit(t *testing.T, s *store.Store, rows ...api.Row) {
	t.Helper()
	if e := s.Commit(rows...); e != api.OK {
		t.Fatal("commit: ", e)
	}
}

// keep keeps a content under its name, by Row: its name.
func keep(t *testing.T, s *store.Store, content, base string) string {
	t.Helper()
	name := sum(content)
	commit(t, s, Row(s, name, content, base))
	return name
}

// full is a row of a content as it is.
func full(name, content string) api.Row { return api.Row{Key: "b" + name, Value: "f" + content} }

// part is a row of a delta.
func part(name, base, d string) api.Row { return api.Row{Key: "b" + name, Value: "d" + base + d} }

// gone is a row by which a name has nothing any more.
func gone(name string) api.Row { return api.Row{Key: "b" + name, Gone: true} }

// has fails if a name hasn't this content and depth.
func has(t *testing.T, s *store.Store, name, content string, depth int) {
	t.Helper()
	if got, ok := Content(s, name); !ok || got != content {
		t.Errorf("%.9s has %q, %v, want %q", name, got, ok, content)
	}
	if got := Depth(s, name); got != depth {
		t.Errorf("%.9s is %d deep, want %d", name, got, depth)
	}
}

// lacks fails if a name has a content, or another depth.
func lacks(t *testing.T, s *store.Store, name string, depth int) {
	t.Helper()
	if got, ok := Content(s, name); ok || got != "" {
		t.Errorf("%.9s has %q, %v", name, got, ok)
	}
	if got := Depth(s, name); got != depth {
		t.Errorf("%.9s is %d deep, want %d", name, got, depth)
	}
}

// rises sorts names.
func rises(names ...string) []string {
	slices.Sort(names)
	return names
}

// line keeps stock with each tail, each one with the one ahead as its base: their names.
func line(t *testing.T, s *store.Store, tails ...string) []string {
	t.Helper()
	var names []string
	base := ""
	for _, tail := range tails {
		base = keep(t, s, stock+tail, base)
		names = append(names, base)
	}
	return names
}

// P8.1: without a base that is right the content stands there as it is.
func TestRowWhole(t *testing.T) {
	s := fresh(t)
	one := keep(t, s, stock+"one", "")
	commit(t, s, api.Row{Key: "bshort", Value: "f" + stock}, api.Row{Key: "b" + strings.Repeat("g", 40), Value: "f" + stock}, api.Row{Key: "b", Value: "f" + stock})
	for _, content := range []string{"", "x", "f", "d" + one, "\x00\xff\n", stock, strings.Repeat("y", 300), strings.Repeat("z", 5000)} {
		for _, base := range []string{"", "short", one[:39], one + "0", strings.ToUpper(one), strings.Repeat("g", 40), strings.Repeat("0", 40), sum(content), "b" + one} {
			if got := Row(s, sum(content), content, base); got != full(sum(content), content) {
				t.Errorf("%.20q of %.20q: %.60v", content, base, got)
			}
		}
	}
}

// P8.1: a delta is kept just where it has fewer bytes than the content less 41.
func TestRowShorter(t *testing.T) {
	s := fresh(t)
	one := keep(t, s, stock+"one", "")
	edges := map[int]bool{}
	for size := range len(stock) + 1 {
		for _, tail := range []string{"", "?", "!!", "some more"} {
			content := stock[:size] + tail
			name, d := sum(content), delta.Make(stock+"one", content)
			want := full(name, content)
			if len(d) < len(content)-41 {
				want = part(name, one, d)
			}
			edges[len(content)-41-len(d)] = true
			if got := Row(s, name, content, one); got != want {
				t.Errorf("%d bytes, a delta of %d: %.60v", len(content), len(d), got)
			}
		}
	}
	if !edges[0] || !edges[1] || !edges[-1] {
		t.Error("not at the edge")
	}
}

// P8.1: of a content of more than MaxArtifact bytes there is no delta; of one that is as long there is.
func TestRowLong(t *testing.T) {
	s := fresh(t)
	most := strings.Repeat("m", api.MaxArtifact)
	one := keep(t, s, most+"and more", "")
	has(t, s, one, most+"and more", 0)
	if got := Row(s, sum(most), most, one); got != part(sum(most), one, delta.Make(most+"and more", most)) {
		t.Errorf("%.60v", got)
	}
	for _, content := range []string{most + "m", most + "and", most + most + most} {
		if got := Row(s, sum(content), content, one); got != full(sum(content), content) {
			t.Errorf("%.60v", got)
		}
	}
}

// P8.1: what a base stands on makes its depth; one of MaxChain is too deep.
func TestRowDeep(t *testing.T) {
	s := fresh(t)
	names := line(t, s, "0", "1", "2", "3", "4", "5", "6", "7", "8")
	for i, name := range names {
		has(t, s, name, stock+strconv.Itoa(i), i%(api.MaxChain+1))
		content := stock + "new"
		want := full(sum(content), content)
		if i%4 < api.MaxChain {
			want = part(sum(content), name, delta.Make(stock+strconv.Itoa(i), content))
		}
		if got := Row(s, sum(content), content, name); got != want {
			t.Errorf("%d: %.60v", i, got)
		}
	}
	if !Check(s) {
		t.Error("check")
	}
}

// P8.1: nothing stands on itself, by one base, two or three.
func TestRowOnItself(t *testing.T) {
	s := fresh(t)
	names := line(t, s, "0", "1", "2", "3", "4")
	content := stock + "another"
	for i, name := range names {
		for k, base := range names {
			want := full(name, content)
			if k < api.MaxChain && i > k || k == 4 && i < 4 {
				want = part(name, base, delta.Make(stock+strconv.Itoa(k), content))
			}
			if got := Row(s, name, content, base); got != want {
				t.Errorf("%d of %d: %.60v", i, k, got)
			}
		}
	}
}

// P8.1: a base without a content is none.
func TestRowOdd(t *testing.T) {
	right := delta.Make(stock, stock+"a")
	for i, rows := range [][]api.Row{
		{{Key: "b" + sum("a")}},
		{{Key: "b" + sum("a"), Value: "x" + stock}},
		{part(sum("a"), sum("none"), right)},
		{part(sum("a"), sum("a"), right)},
		{part(sum("a"), sum("b"), "?"), full(sum("b"), stock)},
		{part(sum("a"), sum("b"), right), part(sum("b"), sum("a"), right)},
		{part(sum("a"), sum("b"), right), part(sum("b"), sum("c"), "?"), full(sum("c"), stock)},
	} {
		s := fresh(t, rows...)
		content := stock + "new"
		if got := Row(s, sum(content), content, sum("a")); got != full(sum(content), content) {
			t.Errorf("%d: %.60v", i, got)
		}
	}
}

// P8.2: f and the content, whatever it is, and deltas of it.
func TestContent(t *testing.T) {
	for _, content := range []string{"", "f", "d", "d" + sum("x") + "0\n0;", "\x00\xff", stock, strings.Repeat("long", 500)} {
		s := fresh(t, full(sum("a"), content), part(sum("b"), sum("a"), delta.Make(content, "b "+stock)),
			part(sum("c"), sum("b"), delta.Make("b "+stock, "")), part(sum("d"), sum("c"), delta.Make("", "d "+stock)))
		has(t, s, sum("a"), content, 0)
		has(t, s, sum("b"), "b "+stock, 1)
		has(t, s, sum("c"), "", 2)
		has(t, s, sum("d"), "d "+stock, 3)
	}
}

// P8.2: rows that say nothing, of neither form; names that have no row; texts that are no names.
func TestContentNone(t *testing.T) {
	base, right := sum(stock), delta.Make(stock, stock+"more")
	for _, value := range []string{"", " ", "F", "D", "q", "\x00f", "b" + base, "d", "d" + base[:39], "d" + right} {
		s := fresh(t, full(base, stock), api.Row{Key: "b" + sum("a"), Value: value})
		lacks(t, s, sum("a"), -1)
		if Check(s) {
			t.Errorf("%q: checked", value)
		}
	}
	odd := []string{"", "x", base[:39], base + "0", strings.ToUpper(sum("a")), strings.Repeat("g", 40)}
	s := fresh(t, full(base, stock))
	for _, name := range odd {
		commit(t, s, full(name, stock), api.Row{Key: name + "b", Value: "f" + stock}, api.Row{Key: "c" + base, Value: "f" + stock})
	}
	for _, name := range append(odd, "b"+base, sum("none")) {
		lacks(t, s, name, -1)
		if got := Drop(s, name); got != nil {
			t.Errorf("%q: %v", name, got)
		}
	}
	has(t, s, base, stock, 0)
	if !Check(s) {
		t.Error("check")
	}
}

// P8.2: a delta whose base is none, or that doesn't apply, at each place of a chain.
func TestContentBroken(t *testing.T) {
	base, right := sum("base"), delta.Make(stock, stock)
	for _, wrong := range []string{"", "?", right + " ", right[1:], delta.Make(stock, strings.Repeat("ab", 99))[:9], "1\n1:y0;"} {
		s := fresh(t, full(base, stock), part(sum("a"), base, wrong), part(sum("b"), sum("a"), right), part(sum("c"), sum("b"), right))
		has(t, s, base, stock, 0)
		lacks(t, s, sum("a"), 1)
		lacks(t, s, sum("b"), 2)
		lacks(t, s, sum("c"), 3)
		s = fresh(t, full(base, stock), part(sum("a"), base, right), part(sum("b"), sum("a"), wrong), part(sum("c"), sum("b"), right))
		has(t, s, sum("a"), stock, 1)
		lacks(t, s, sum("b"), 2)
		lacks(t, s, sum("c"), 3)
	}
	for _, none := range []string{sum("none"), strings.Repeat("g", 40), strings.Repeat("\x00", 40)} {
		s := fresh(t, full(strings.Repeat("g", 40), stock), part(sum("a"), none, right), part(sum("b"), sum("a"), right), part(sum("c"), sum("b"), right), part(sum("d"), sum("c"), right))
		lacks(t, s, sum("a"), 1)
		lacks(t, s, sum("b"), 2)
		lacks(t, s, sum("c"), 3)
		lacks(t, s, sum("d"), 4)
	}
	s := fresh(t, api.Row{Key: "b" + base, Value: "q"}, part(sum("a"), base, right))
	lacks(t, s, sum("a"), 1)
}

// P8.2: chains of each length, and rings of each length, and what stands on rings.
func TestContentChains(t *testing.T) {
	right := delta.Make(stock, stock)
	for n := range 12 {
		s := fresh(t, full(sum("0"), stock))
		for i := range n {
			commit(t, s, part(sum(strconv.Itoa(i+1)), sum(strconv.Itoa(i)), right))
		}
		for i := range n + 1 {
			name := sum(strconv.Itoa(i))
			if i <= api.MaxChain {
				has(t, s, name, stock, i)
			} else {
				lacks(t, s, name, api.MaxChain+1)
			}
		}
		commit(t, s, part(sum("0"), sum(strconv.Itoa(n)), right))
		for i := range n + 1 {
			lacks(t, s, sum(strconv.Itoa(i)), api.MaxChain+1)
		}
		commit(t, s, part(sum("on"), sum("0"), right))
		lacks(t, s, sum("on"), api.MaxChain+1)
	}
}

// P8.2: names rise, of rows that say nothing, too; keys of others, and of no names, aren't there.
func TestNames(t *testing.T) {
	s := fresh(t)
	if got := slices.Collect(Names(s)); got != nil {
		t.Error(got)
	}
	if !Check(s) {
		t.Error("check of none")
	}
	var want []string
	for i := range 30 {
		name := sum(strconv.Itoa(i))
		commit(t, s, api.Row{Key: "b" + name, Value: []string{"", "f", "q", "d" + name}[i%4]})
		want = append(want, name)
		commit(t, s, api.Row{Key: "a" + name}, api.Row{Key: "c" + name}, api.Row{Key: name}, full(name[1:], ""), full(name+"0", ""), full(strings.ToUpper(name), ""), full("", ""))
	}
	slices.Sort(want)
	if got := slices.Collect(Names(s)); !slices.Equal(got, want) {
		t.Error(got)
	}
	commit(t, s, gone(want[3]), gone(want[0]), gone(want[29]))
	want = slices.Delete(want[1:29], 2, 3)
	if got := slices.Collect(Names(s)); !slices.Equal(got, want) {
		t.Error(got)
	}
}

// P8.2, R2: a walk goes as long as it is asked for, over what there is when it begins, and may be walked again.
func TestNamesWalk(t *testing.T) {
	s := fresh(t)
	walk := Names(s)
	want := rises(sum("a"), sum("b"), sum("c"), sum("d"))
	for _, name := range want {
		commit(t, s, full(name, ""))
	}
	for most := 1; most <= 5; most++ {
		var got []string
		walk(func(name string) bool {
			got = append(got, name)
			return len(got) < most
		})
		if !slices.Equal(got, want[:min(most, 4)]) {
			t.Errorf("at most %d: %q", most, got)
		}
	}
	var got []string
	for name := range walk {
		got = append(got, name)
		commit(t, s, gone(want[2]), full(sum("e"+name), ""), gone(want[1]))
		for range walk {
			break
		}
	}
	if !slices.Equal(got, want) {
		t.Errorf("turned: %q", got)
	}
	if got := slices.Collect(walk); len(got) != 6 || !slices.IsSorted(got) || slices.Contains(got, want[1]) {
		t.Errorf("again: %q", got)
	}
}

// P8.3: what stands on the name is whole, by rising names; what stands on that goes on standing there.
func TestDrop(t *testing.T) {
	s := fresh(t)
	root := keep(t, s, stock+"root", "")
	var on []string
	contents := map[string]int{}
	for i := range 6 {
		content := stock + strconv.Itoa(i)
		on = append(on, keep(t, s, content, root))
		contents[on[i]] = i
	}
	deep := keep(t, s, stock+"deep", on[0])
	other := keep(t, s, stock+"other", "")
	keep(t, s, "short", root)
	var want []api.Row
	for _, name := range rises(slices.Clone(on)...) {
		want = append(want, full(name, stock+strconv.Itoa(contents[name])))
	}
	want = append(want, gone(root))
	rows := Drop(s, root)
	if !slices.Equal(rows, want) {
		t.Fatalf("%v, want %v", rows, want)
	}
	has(t, s, root, stock+"root", 0)
	commit(t, s, rows...)
	lacks(t, s, root, -1)
	for i, name := range on {
		has(t, s, name, stock+strconv.Itoa(i), 0)
	}
	has(t, s, deep, stock+"deep", 1)
	if !Check(s) {
		t.Error("check")
	}
	for _, name := range []string{deep, other} {
		if got := Drop(s, name); !slices.Equal(got, []api.Row{gone(name)}) {
			t.Error(got)
		}
	}
	if got := Drop(s, root); got != nil {
		t.Error(got)
	}
}

// P8.3: each one of a chain.
func TestDropOfChain(t *testing.T) {
	for i := range 4 {
		s := fresh(t)
		names := line(t, s, "0", "1", "2", "3")
		want := []api.Row{gone(names[i])}
		if i < 3 {
			want = []api.Row{full(names[i+1], stock+strconv.Itoa(i+1)), gone(names[i])}
		}
		rows := Drop(s, names[i])
		if !slices.Equal(rows, want) {
			t.Errorf("%d: %v", i, rows)
		}
		commit(t, s, rows...)
		for k, name := range names {
			switch {
			case k < i:
				has(t, s, name, stock+strconv.Itoa(k), k)
			case k == i:
				lacks(t, s, name, -1)
			default:
				has(t, s, name, stock+strconv.Itoa(k), k-i-1)
			}
		}
		if !Check(s) {
			t.Error("check")
		}
	}
}

// P8.3: what stands on the name without a content isn't made whole; what has no row isn't dropped, whatever stands on it.
func TestDropOdd(t *testing.T) {
	a, b, right := sum("a"), sum("b"), delta.Make(stock, stock+"b")
	for i, q := range []struct{ rows, want []api.Row }{
		{[]api.Row{{Key: "b" + a}}, []api.Row{gone(a)}},
		{[]api.Row{{Key: "b" + a, Value: "q"}, part(b, a, right)}, []api.Row{gone(a)}},
		{[]api.Row{part(a, a, right)}, []api.Row{gone(a)}},
		{[]api.Row{part(a, b, right), part(b, a, right)}, []api.Row{gone(a)}},
		{[]api.Row{full(a, stock), part(b, a, "?")}, []api.Row{gone(a)}},
		{[]api.Row{full(a, stock), part(b, a, right), part(sum("c"), a, "?")}, []api.Row{full(b, stock+"b"), gone(a)}},
		{[]api.Row{full(a, stock), part(b, a, delta.Make(stock, ""))}, []api.Row{full(b, ""), gone(a)}},
		{[]api.Row{full(a, stock), part(b[1:], a, right), {Key: "c" + b, Value: "d" + a + right}, {Key: "b" + b, Value: "q" + a + right}}, []api.Row{gone(a)}},
		{[]api.Row{part(b, a, right)}, nil},
		{[]api.Row{full(b, stock)}, nil},
	} {
		s := fresh(t, q.rows...)
		if got := Drop(s, a); !slices.Equal(got, q.want) {
			t.Errorf("%d: %v", i, got)
		}
	}
}

// P8.3: each way of a store that isn't right, beside others that are.
func TestCheck(t *testing.T) {
	one, right := sum(stock+"one"), delta.Make(stock+"one", stock+"two")
	good := []api.Row{full(one, stock+"one"), part(sum(stock+"two"), one, right), full(sum(""), "")}
	if s := fresh(t, good...); !Check(s) {
		t.Error("good")
	}
	for i, q := range []struct {
		row  api.Row
		want bool
	}{
		{api.Row{Key: "c" + one, Value: "q"}, true},
		{api.Row{Key: "b", Value: "q"}, true},
		{full(one[:39], "q"), true},
		{full(sum("x"), "x"), true},
		{full(sum("x"), "y"), false},
		{api.Row{Key: "b" + sum("")}, false},
		{api.Row{Key: "b" + sum("x"), Value: "q"}, false},
		{part(sum("x"), one, right), false},
		{part(sum(stock+"two"), sum("x"), right), false},
		{part(sum(stock+"two"), one, "?"), false},
		{part(one, one, right), false},
		{part(one, sum(stock+"two"), right), false},
	} {
		if s := fresh(t, append(good[:3:3], q.row)...); Check(s) != q.want {
			t.Errorf("%d: %v", i, !q.want)
		}
	}
	s := fresh(t)
	names := line(t, s, "0", "1", "2", "3")
	commit(t, s, part(sum(stock+"x"), names[3], delta.Make(stock+"3", stock+"x")))
	if Check(s) {
		t.Error("too deep a one")
	}
}

// P8.1 to P8.3: many contents that come and go, held against a map.
func TestMany(t *testing.T) {
	r := rand.New(rand.NewSource(8))
	deltas := 0
	for range 60 {
		s, model := fresh(t), map[string]string{}
		for range 60 {
			held := slices.Collect(Names(s))
			content := stock[r.Intn(60):] + strconv.Itoa(r.Intn(40))
			name := sum(content)
			switch _, there := model[name]; {
			case there || len(held) > 0 && r.Intn(4) == 0:
				name = held[r.Intn(len(held))]
				commit(t, s, Drop(s, name)...)
				delete(model, name)
			default:
				base := append(held, "", sum("none"))[r.Intn(len(held)+2)]
				row := Row(s, name, content, base)
				commit(t, s, row)
				model[name] = content
				if row.Value[0] == 'd' {
					deltas++
				}
			}
			same(t, s, model)
		}
		same(t, store.Open(s.Journal().Disk()), model)
	}
	if deltas < 500 {
		t.Error("few deltas: ", deltas)
	}
}

// same fails if a store hasn't just these contents.
func same(t *testing.T, s *store.Store, model map[string]string) {
	t.Helper()
	var want []string
	for name, content := range model {
		want = append(want, name)
		if got, ok := Content(s, name); !ok || got != content {
			t.Fatalf("%s has %q, want %q", name, got, content)
		}
		if d := Depth(s, name); d < 0 || d > api.MaxChain {
			t.Fatal("depth ", d)
		}
	}
	if got := slices.Collect(Names(s)); !slices.Equal(got, rises(want...)) {
		t.Fatalf("names %q, want %q", got, want)
	}
	if !Check(s) {
		t.Fatal("check")
	}
}

// R1, R2: any rows at all: nothing panics, nothing is changed, and what is said holds together.
func TestAnyRows(t *testing.T) {
	r := rand.New(rand.NewSource(9))
	names := []string{sum("a"), sum("b"), sum("c"), sum("d"), sum(stock)}
	right := delta.Make(stock, stock)
	for range 3000 {
		s := fresh(t)
		for _, name := range names {
			base := names[r.Intn(len(names))]
			commit(t, s, []api.Row{full(name, stock), part(name, base, right), part(name, base, right), part(name, base, "?"), {Key: "b" + name, Value: "d" + base[:r.Intn(40)]}, gone(name)}[r.Intn(6)])
		}
		before := slices.Collect(s.Journal().All())
		for _, name := range names {
			content, ok := Content(s, name)
			depth := Depth(s, name)
			if ok && (content != stock || depth < 0 || depth > api.MaxChain) || !ok && depth == 0 {
				t.Fatal(content, depth)
			}
			for _, other := range names {
				row := Row(s, name, stock, other)
				_, based := Content(s, other)
				if row != full(name, stock) && (row != part(name, other, right) || !based || name == other || Depth(s, other) > 2) {
					t.Fatal(row)
				}
			}
			rows := Drop(s, name)
			if _, there := s.Get("b" + name); there != (len(rows) > 0) {
				t.Fatal(rows)
			}
		}
		Check(s)
		if !slices.Equal(before, slices.Collect(s.Journal().All())) {
			t.Fatal("changed")
		}
	}
}

// R2: what is handed in isn't kept, and what is answered is new memory.
func TestMemory(t *testing.T) {
	s := fresh(t)
	one := keep(t, s, stock, "")
	keep(t, s, stock+"two", one)
	name, base, content := []byte(sum("x")), []byte(one), []byte(stock+"x")
	text := func(b []byte) string { return unsafe.String(&b[0], len(b)) }
	short := []byte("x")
	rows := []api.Row{Row(s, text(name), text(content), text(base)), Row(s, text(name), text(short), "")}
	want := []api.Row{part(sum("x"), one, delta.Make(stock, stock+"x")), full(sum("x"), "x")}
	dropped := Drop(s, text(base))
	clear(name)
	clear(base)
	clear(content)
	clear(short)
	if !slices.Equal(rows, want) || dropped[len(dropped)-1] != gone(one) {
		t.Error(rows, dropped)
	}
	clear(dropped[:cap(dropped)])
	seen := map[*byte]bool{}
	check := func(s string) {
		t.Helper()
		if seen[unsafe.StringData(s)] {
			t.Errorf("shared: %.50q", s)
		}
		seen[unsafe.StringData(s)] = true
	}
	for range 2 {
		for name := range Names(s) {
			check(name)
			content, _ := Content(s, name)
			check(content)
		}
		for _, row := range Drop(s, one) {
			check(row.Key)
		}
	}
	if !Check(s) {
		t.Error("check")
	}
}

// The section 'Runs'.
func TestRuns(t *testing.T) {
	s := fresh(t)
	first := keep(t, s, stock+"first", "")
	second := keep(t, s, stock+"second", first)
	if v, _ := s.Get("b" + second); v[0] != 'd' || v[1:41] != first {
		t.Error(v)
	}
	commit(t, s, Drop(s, first)...)
	if v, _ := s.Get("b" + second); v != "f"+stock+"second" {
		t.Error(v)
	}
}
