package folder_test

import (
	"encoding/binary"
	"hash/fnv"
	"math"
	"slices"
	"strconv"
	"strings"
	"testing"

	"escritoire/api"
	"escritoire/body"
	"escritoire/cards"
	"escritoire/folder"
	"escritoire/memory"
	"escritoire/plan"
	"escritoire/store"
	"escritoire/view"
)

const (
	size     = 2824
	ownersAt = 200
	blocksAt = 1288
	greatest = math.MaxUint64
)

// holding is a memory of the plan, with these words beside the head.
func holding(words map[int]uint64) *memory.Memory {
	l := make([]uint64, size)
	copy(l, plan.Head())
	for at, w := range words {
		l[at] = w
	}
	return memory.Load(l)
}

// empty is a view of a memory without files, whose blocks hold what is no file's.
func empty(t *testing.T) *view.View {
	t.Helper()
	l := map[int]uint64{}
	for at := blocksAt; at < size; at++ {
		l[at] = greatest - uint64(at)
	}
	return of(t, holding(l))
}

// left is a view of a memory in which so many blocks, the last ones, are fresh; the others are file 2's, and all blocks' words 0.
func left(t *testing.T, n int) *view.View {
	t.Helper()
	l := map[int]uint64{}
	for block := range 96 - n {
		l[ownersAt+block] = 3
	}
	return of(t, holding(l))
}

// of is a new view of a memory.
func of(t *testing.T, m *memory.Memory) *view.View {
	t.Helper()
	v := view.New(m)
	if v == nil {
		t.Fatal("no view")
	}
	return v
}

// fresh is a directory's card without names and blocks.
func fresh() api.Card {
	return api.Card{Kind: api.Dir, Links: 1, Version: 7, Direct: [5]int{-1, -1, -1, -1, -1}, More: -1}
}

// withMap is a directory's card of so many names, with these blocks in the places of its map; those from 5 on stand in the block more.
func withMap(t *testing.T, v *view.View, names, more int, blocks map[int]int) api.Card {
	t.Helper()
	c := fresh()
	c.Size = names
	var rest [16]uint64
	for place, block := range blocks {
		if place < 5 {
			c.Direct[place] = block
			continue
		}
		c.More = more
		rest[place-5] = uint64(block) + 1
	}
	if c.More != -1 {
		ok(t, v.SetBlock(more, rest[:]))
	}
	return c
}

// outside is numbers that none of n things has.
func outside(n int) []int {
	return []int{-1, -2, -16, n, n + 1, 4096, 1 << 32, 1<<32 + 1, 1 << 60, math.MinInt, math.MinInt + 1, math.MaxInt - 1, math.MaxInt}
}

// noTargets is numbers that no name may have.
func noTargets() []int { return append(outside(24), 0) }

// badNames is names that may not be.
func badNames() []string {
	return []string{
		"", ".", "..", "/", "/a", "a/", "a/b", "A", "aB", "a b", " ", "a~", "a,b", "a:", "a;", "a`", "a{", "a+", "*", "\\",
		"a\x00", "\x00", "\x00a", "a\x00b", "a\n", "\x7f", "\x80", "\xff", "é", "日", "ab\x00\x00",
		strings.Repeat("a", 15), strings.Repeat("a", 16), strings.Repeat("a", 17), strings.Repeat("a", 24), strings.Repeat("a", 1000),
		strings.Repeat(".", 15), strings.Repeat("a", 14) + "\x00",
	}
}

// bucketOf is a name's bucket, by the library's hash of this kind.
func bucketOf(name string) int {
	h := fnv.New64a()
	h.Write([]byte(name))
	return int(h.Sum64() % 8)
}

// namesOf is the first n names of a bucket's row of names, each of which is ahead, in order, of those ahead of it in the row.
func namesOf(bucket, n int) []string {
	var l []string
	for i := 999; len(l) < n && i > 99; i-- {
		if name := "n" + strconv.Itoa(i); bucketOf(name) == bucket {
			l = append(l, name)
		}
	}
	return l
}

// placesOf is the places of a map that a bucket has.
func placesOf(bucket int) []int {
	if bucket < 5 {
		return []int{bucket, bucket + 8, bucket + 16}
	}
	return []int{bucket, bucket + 8}
}

// textOf is a name as the two words of an entry.
func textOf(name string) []uint64 {
	b := make([]byte, 16)
	copy(b, name)
	return []uint64{binary.LittleEndian.Uint64(b), binary.LittleEndian.Uint64(b[8:])}
}

// laid is a block with these entries, from the first one on.
func laid(l ...api.Entry) []uint64 {
	w := make([]uint64, 16)
	for i, x := range l {
		w[3*i] = uint64(x.Node)
		copy(w[3*i+1:], textOf(x.Name))
	}
	return w
}

// numbered is an entry for each of these names, with numbers from first on.
func numbered(first int, l ...string) []api.Entry {
	var entries []api.Entry
	for i, name := range l {
		entries = append(entries, api.Entry{Name: name, Node: first + i})
	}
	return entries
}

// ok asks that every call answered OK.
func ok(t *testing.T, l ...api.Errno) {
	t.Helper()
	for i, e := range l {
		if e != api.OK {
			t.Fatalf("call %d: error %d", i, e)
		}
	}
}

// shown is all that a view shows.
type shown struct {
	words      []uint64
	changes    []api.Change
	seen, mine []int
}

func shows(v *view.View) shown {
	s := shown{changes: v.Changes(), seen: v.Seen(), mine: v.Mine()}
	for at := range size {
		s.words = append(s.words, v.Read(at))
	}
	return s
}

// still asks that a view shows what it showed.
func (s shown) still(t *testing.T, v *view.View) {
	t.Helper()
	now := shows(v)
	if !slices.Equal(now.words, s.words) || !slices.Equal(now.changes, s.changes) {
		t.Fatal("words are other ones now")
	}
	if !slices.Equal(now.seen, s.seen) || !slices.Equal(now.mine, s.mine) {
		t.Fatal("other cards are noted now")
	}
}

// but asks that a view shows what it showed, except for these words.
func (s shown) but(t *testing.T, v *view.View, words map[int]uint64) {
	t.Helper()
	for at, w := range s.words {
		if other, named := words[at]; named {
			w = other
		}
		if v.Read(at) != w {
			t.Fatalf("word %d is %d, not %d", at, v.Read(at), w)
		}
	}
	if !slices.Equal(v.Seen(), s.seen) || !slices.Equal(v.Mine(), s.mine) {
		t.Fatal("other cards are noted now")
	}
}

// lists asks for just these names, each of which is found with its number.
func lists(t *testing.T, v *view.View, c api.Card, want ...api.Entry) {
	t.Helper()
	before := shows(v)
	l, e := folder.List(v, c)
	if e != api.OK || !slices.Equal(l, want) {
		t.Fatalf("List: %v %d, not %v", l, e, want)
	}
	for _, x := range want {
		finds(t, v, c, x.Name, x.Node)
	}
	if c.Size != len(want) {
		t.Fatalf("Size %d of %d names", c.Size, len(want))
	}
	before.still(t, v)
}

// finds asks for a name's number.
func finds(t *testing.T, v *view.View, c api.Card, name string, node int) {
	t.Helper()
	if n, found, e := folder.Find(v, c, name); n != node || !found || e != api.OK {
		t.Fatalf("Find of %q: %d %v %d, not %d", name, n, found, e, node)
	}
}

// findsNone asks that names aren't there.
func findsNone(t *testing.T, v *view.View, c api.Card, l ...string) {
	t.Helper()
	before := shows(v)
	for _, name := range l {
		if n, found, e := folder.Find(v, c, name); n != 0 || found || e != api.OK {
			t.Fatalf("Find of %q: %d %v %d, not none", name, n, found, e)
		}
	}
	before.still(t, v)
}

// adds asks that a name is added, and is there then; the card has a name more, and maybe blocks.
func adds(t *testing.T, v *view.View, node int, c api.Card, name string, target int) api.Card {
	t.Helper()
	got, e := folder.Add(v, node, c, name, target)
	if e != api.OK || got.Size != c.Size+1 || got.Kind != c.Kind || got.Links != c.Links || got.Version != c.Version || !cards.Right(got) {
		t.Fatalf("Add of %q to %v: %v %d", name, c, got, e)
	}
	finds(t, v, got, name, target)
	return got
}

// addFails asks that Add refuses, and leaves all as it was.
func addFails(t *testing.T, v *view.View, node int, c api.Card, name string, target int, want api.Errno) {
	t.Helper()
	before := shows(v)
	addTells(t, v, node, c, name, target, want)
	before.still(t, v)
}

// addTells asks that Add refuses.
func addTells(t *testing.T, v *view.View, node int, c api.Card, name string, target int, want api.Errno) {
	t.Helper()
	if got, e := folder.Add(v, node, c, name, target); got != (api.Card{}) || e != want {
		t.Fatalf("Add of %q, %d to %v: %v %d, not error %d", name, target, c, got, e, want)
	}
}

// drops asks that a name is dropped, which had this number; the card is the same, but for its Size.
func drops(t *testing.T, v *view.View, node int, c api.Card, name string, target int) api.Card {
	t.Helper()
	want := c
	want.Size--
	got, n, e := folder.Drop(v, node, c, name)
	if got != want || n != target || e != api.OK {
		t.Fatalf("Drop of %q: %v %d %d, not %v %d", name, got, n, e, want, target)
	}
	findsNone(t, v, got, name)
	return got
}

// dropFails asks that Drop refuses, and leaves all as it was.
func dropFails(t *testing.T, v *view.View, node int, c api.Card, name string, want api.Errno) {
	t.Helper()
	before := shows(v)
	dropTells(t, v, node, c, name, want)
	before.still(t, v)
}

// dropTells asks that Drop refuses.
func dropTells(t *testing.T, v *view.View, node int, c api.Card, name string, want api.Errno) {
	t.Helper()
	if got, n, e := folder.Drop(v, node, c, name); got != (api.Card{}) || n != 0 || e != want {
		t.Fatalf("Drop of %q from %v: %v %d %d, not error %d", name, c, got, n, e, want)
	}
}

// clears asks that a directory is cleared, that just these blocks are given back, and that no other word is another one.
func clears(t *testing.T, v *view.View, node int, c api.Card, blocks ...int) api.Card {
	t.Helper()
	before := shows(v)
	want := fresh()
	want.Links, want.Version = c.Links, c.Version
	got, e := folder.Clear(v, node, c)
	if got != want || e != api.OK {
		t.Fatalf("Clear: %v %d, not %v", got, e, want)
	}
	free := map[int]uint64{}
	for _, block := range blocks {
		if before.words[ownersAt+block] == 0 {
			t.Fatalf("block %d was free already", block)
		}
		free[ownersAt+block] = 0
	}
	before.but(t, v, free)
	lists(t, v, got)
	return got
}

// clearFails asks that Clear refuses, and leaves all as it was.
func clearFails(t *testing.T, v *view.View, node int, c api.Card, want api.Errno) {
	t.Helper()
	before := shows(v)
	clearTells(t, v, node, c, want)
	before.still(t, v)
}

// clearTells asks that Clear refuses.
func clearTells(t *testing.T, v *view.View, node int, c api.Card, want api.Errno) {
	t.Helper()
	if got, e := folder.Clear(v, node, c); got != (api.Card{}) || e != want {
		t.Fatalf("Clear of %v: %v %d, not error %d", c, got, e, want)
	}
}

// allFail asks that every call tells this error of a card, be a name there or not, or one that may not be; and that all is left as it was.
func allFail(t *testing.T, v *view.View, c api.Card, want api.Errno) {
	t.Helper()
	before := shows(v)
	if l, e := folder.List(v, c); len(l) != 0 || e != want {
		t.Fatalf("List of %v: %v %d, not error %d", c, l, e, want)
	}
	for _, name := range []string{"a", "n999", "n998", "", ".."} {
		if n, found, e := folder.Find(v, c, name); n != 0 || found || e != want {
			t.Fatalf("Find of %q in %v: %d %v %d, not error %d", name, c, n, found, e, want)
		}
		addTells(t, v, 2, c, name, 3, want)
		dropTells(t, v, 2, c, name, want)
	}
	clearTells(t, v, 2, c, want)
	before.still(t, v)
}

// mapIs asks for a card's blocks, and More.
func mapIs(t *testing.T, v *view.View, c api.Card, more int, blocks map[int]int) {
	t.Helper()
	m, e := body.Map(v, c)
	ok(t, e)
	for place, block := range m {
		want, has := blocks[place]
		if !has {
			want = -1
		}
		if block != want {
			t.Fatalf("the place %d has the block %d, not %d", place, block, want)
		}
	}
	if c.More != more {
		t.Fatalf("More is %d, not %d", c.More, more)
	}
}

// blockIs asks for a block's entries, from the first one on, and nothing behind them.
func blockIs(t *testing.T, v *view.View, block int, want ...api.Entry) {
	t.Helper()
	l, e := v.Block(block)
	ok(t, e)
	if !slices.Equal(l, laid(want...)) {
		t.Fatalf("block %d is %v, not of %v", block, l, want)
	}
}

// ownsJust asks that a file has just these blocks as its own.
func ownsJust(t *testing.T, v *view.View, node int, want ...int) {
	t.Helper()
	var l []int
	for block := range 96 {
		if v.Read(ownersAt+block) == uint64(node)+1 {
			l = append(l, block)
		}
	}
	if !slices.Equal(l, want) {
		t.Fatalf("file %d has the blocks %v, not %v", node, l, want)
	}
}

// P11.1: the chapter's example.
func TestExample(t *testing.T) {
	v := empty(t)
	c := adds(t, v, 2, fresh(), "b", 5)
	c = adds(t, v, 2, c, "a", 4)
	lists(t, v, c, numbered(4, "a", "b")...)
}

// P11.1: a name of each bucket: its place, its block, its words, and More's; all for this file, and no other word is another one.
func TestAddLaysOut(t *testing.T) {
	for _, node := range []int{0, 1, 2, 23} {
		for bucket := range 8 {
			for _, target := range []int{1, 2, 22, 23} {
				v := empty(t)
				before := shows(v)
				name := namesOf(bucket, 1)[0]
				c := adds(t, v, node, fresh(), name, target)
				words := map[int]uint64{ownersAt: uint64(node) + 1}
				more := -1
				if bucket >= 5 {
					more = 1
					words[ownersAt+1] = uint64(node) + 1
					for i := range 16 {
						words[blocksAt+16+i] = 0
					}
					words[blocksAt+16+bucket-5] = 1
				}
				for i, w := range laid(api.Entry{Name: name, Node: target}) {
					words[blocksAt+i] = w
				}
				before.but(t, v, words)
				mapIs(t, v, c, more, map[int]int{bucket: 0})
				lists(t, v, c, api.Entry{Name: name, Node: target})
			}
		}
	}
}

// P11.1: names of each length, with all signs that may be, there and back.
func TestNamesOfEachLength(t *testing.T) {
	v := empty(t)
	signs := "-._0123456789abcdefghijklmnopqrstuvwxyz"
	for from := range signs {
		for n := 14; n > 0; n-- {
			name := (signs + signs)[from : from+n]
			if name == "." {
				continue
			}
			c := adds(t, v, 2, fresh(), name, 9)
			lists(t, v, c, api.Entry{Name: name, Node: 9})
			findsNone(t, v, c, name+"a", name+"\x00", name[1:], name[:n-1], "\x00"+name)
			blockIs(t, v, 0, api.Entry{Name: name, Node: 9})
			clears(t, v, 2, drops(t, v, 2, c, name, 9), ownedBy(v, 2)...)
		}
	}
}

// ownedBy is a file's blocks.
func ownedBy(v *view.View, node int) []int {
	var l []int
	for block := range 96 {
		if v.Read(ownersAt+block) == uint64(node)+1 {
			l = append(l, block)
		}
	}
	return l
}

// P11.1: byte by byte, a beginning ahead of what goes on, in whatever row they were added.
func TestListInOrder(t *testing.T) {
	order := []string{
		"-", "--", "-a", "...", "..a", ".a", "0", "00", "01", "0a", "9", "_", "__", "_a",
		"a", "a-", "a.", "a.b", "a0", "a_", "aa", "aaa", "aaaaaaa", "aaaaaaaa", "aaaaaaaaa", "aaaaaaaaaaaaaa", "aaaaaaaaaaaaab", "aaaaaaab",
		"ab", "b", "ba", "z", "zz",
	}
	if !slices.IsSorted(order) {
		t.Fatal("the names aren't in order")
	}
	for step := 1; step < len(order); step++ {
		if gcd(step, len(order)) != 1 {
			continue
		}
		v, c := empty(t), fresh()
		var had []api.Entry
		for i := range order {
			at := i * step % len(order)
			c = adds(t, v, 2, c, order[at], at%23+1)
			had = append(had, api.Entry{Name: order[at], Node: at%23 + 1})
			slices.SortFunc(had, func(a, b api.Entry) int { return slices.Index(order, a.Name) - slices.Index(order, b.Name) })
			lists(t, v, c, had...)
		}
	}
}

// gcd is the greatest number that divides both.
func gcd(a, b int) int {
	for b != 0 {
		a, b = b, a%b
	}
	return a
}

// P11.1: a name that isn't there, in an empty directory and beside others of its bucket; names that may not be are none.
func TestFindOfNone(t *testing.T) {
	v := empty(t)
	findsNone(t, v, fresh(), append(badNames(), "a", "n999", strings.Repeat("z", 14))...)
	c := fresh()
	for bucket := range 8 {
		for i, name := range namesOf(bucket, 6) {
			if i > 0 {
				c = adds(t, v, 2, c, name, i)
			}
		}
		c = adds(t, v, 2, c, "a"+strconv.Itoa(bucket), 23)
	}
	findsNone(t, v, c, badNames()...)
	for bucket := range 8 {
		findsNone(t, v, c, namesOf(bucket, 6)[0], "a", "a"+strconv.Itoa(bucket)+"\x00", "a"+strconv.Itoa(bucket)+"\x00\x00")
		finds(t, v, c, "a"+strconv.Itoa(bucket), 23)
	}
}

// P11.1: one number by several names, and the directory's own.
func TestOneNumberByTwoNames(t *testing.T) {
	v := empty(t)
	c := adds(t, v, 5, fresh(), "a", 5)
	c = adds(t, v, 5, c, "b", 5)
	lists(t, v, c, api.Entry{Name: "a", Node: 5}, api.Entry{Name: "b", Node: 5})
	c = drops(t, v, 5, c, "a", 5)
	lists(t, v, c, api.Entry{Name: "b", Node: 5})
}

// P11.1, R1, R3: each argument that may not be, ahead of all that the chapter names behind it.
func TestAddRefused(t *testing.T) {
	v := empty(t)
	dir := adds(t, v, 2, fresh(), "a", 3)
	corrupt, file := dir, dir
	corrupt.Size, file.Kind = 5, api.File
	for _, c := range []api.Card{dir, corrupt, file} {
		for _, name := range []string{"a", "b", "", "..", strings.Repeat("a", 15)} {
			for _, node := range outside(24) {
				addFails(t, v, node, c, name, 3, api.ErrArg)
			}
			for _, target := range noTargets() {
				addFails(t, v, 2, c, name, target, api.ErrArg)
			}
			addFails(t, v, -1, c, name, 0, api.ErrArg)
		}
	}
	for _, node := range []int{0, 2, 23} {
		addFails(t, v, node, file, "", 3, api.ErrNotDir)
		addFails(t, v, node, corrupt, "", 3, api.ErrCorrupt)
		addFails(t, v, node, dir, "a", 23, api.ErrThere)
		for _, name := range badNames() {
			addFails(t, v, node, dir, name, 1, api.ErrName)
			addFails(t, v, node, fresh(), name, 23, api.ErrName)
		}
	}
	lists(t, v, dir, api.Entry{Name: "a", Node: 3})
}

// P11.1: a name that is there already, wherever in its bucket it stands; the bucket may be full, and no block fresh.
func TestAddOfANameThatIsThere(t *testing.T) {
	for bucket := range 8 {
		v, c := empty(t), fresh()
		l := namesOf(bucket, 5*len(placesOf(bucket)))
		for i, name := range l {
			c = adds(t, v, 2, c, name, i+1)
			for j, there := range l[:i+1] {
				addFails(t, v, 2, c, there, j+1, api.ErrThere)
				addFails(t, v, 2, c, there, 23, api.ErrThere)
			}
		}
		v.Avoid(numbers(96), nil)
		addFails(t, v, 2, c, l[0], 9, api.ErrThere)
		addFails(t, v, 2, c, "", 9, api.ErrName)
	}
}

// P11.1: each bucket, entry by entry, till its first block is full, then its second and, where it has one, its third; the next name finds no room, though others do.
func TestABucketIsFilled(t *testing.T) {
	for bucket := range 8 {
		v, c := empty(t), fresh()
		places := placesOf(bucket)
		l := namesOf(bucket, 5*len(places)+2)
		blocks, more, next := map[int]int{}, -1, 0
		var had []api.Entry
		for i, name := range l[:5*len(places)] {
			place := places[i/5]
			if i%5 == 0 {
				blocks[place] = next
				next++
			}
			if place >= 5 && more == -1 {
				more = next
				next++
			}
			c = adds(t, v, 2, c, name, i+1)
			had = append(had, api.Entry{Name: name, Node: i + 1})
			mapIs(t, v, c, more, blocks)
			blockIs(t, v, blocks[place], had[i/5*5:]...)
			ownsJust(t, v, 2, numbers(next)...)
		}
		for _, name := range l[5*len(places):] {
			addFails(t, v, 2, c, name, 3, api.ErrSpace)
		}
		slices.Reverse(had)
		lists(t, v, c, had...)
		c = adds(t, v, 2, c, namesOf((bucket+1)%8, 1)[0], 1)
		c = drops(t, v, 2, c, l[7], 8)
		c = adds(t, v, 2, c, l[5*len(places)], 21)
		addFails(t, v, 2, c, l[7], 3, api.ErrSpace)
	}
}

// P11.1: all buckets full: 105 names, and no room for one more.
func TestAllBucketsFilled(t *testing.T) {
	v, c := empty(t), fresh()
	var had []api.Entry
	for bucket := range 8 {
		for i, name := range namesOf(bucket, 5*len(placesOf(bucket))) {
			c = adds(t, v, 2, c, name, (bucket+i)%23+1)
			had = append(had, api.Entry{Name: name, Node: (bucket+i)%23 + 1})
		}
	}
	slices.SortFunc(had, func(a, b api.Entry) int { return strings.Compare(a.Name, b.Name) })
	if len(had) != 105 || store.Free(v) != 74 {
		t.Fatal(len(had), store.Free(v))
	}
	lists(t, v, c, had...)
	for bucket := range 8 {
		for _, name := range namesOf(bucket, 17)[5*len(placesOf(bucket)):] {
			findsNone(t, v, c, name)
			addFails(t, v, 2, c, name, 3, api.ErrSpace)
		}
	}
	clears(t, v, 2, c, numbers(22)...)
}

// numbers is all numbers from 0 on, ahead of n.
func numbers(n int) []int {
	l := make([]int, n)
	for i := range l {
		l[i] = i
	}
	return l
}

// P11.1: an entry in the midst that was emptied is the first that is empty again, ahead of one in a later block and of a hole.
func TestAnEmptiedEntryIsTakenFirst(t *testing.T) {
	for bucket := range 8 {
		v, c := empty(t), fresh()
		l := namesOf(bucket, 12)
		for i, name := range l[:8] {
			c = adds(t, v, 2, c, name, i+1)
		}
		m, e := body.Map(v, c)
		ok(t, e)
		first, second := m[bucket], m[bucket+8]
		c = drops(t, v, 2, c, l[6], 7)
		c = drops(t, v, 2, c, l[2], 3)
		c = drops(t, v, 2, c, l[4], 5)
		blocks := store.Free(v)
		had := numbered(1, l[:8]...)
		had[2] = api.Entry{Name: l[8], Node: 20}
		c = adds(t, v, 2, c, l[8], 20)
		blockIs(t, v, first, had[0], had[1], had[2], had[3])
		blockIs(t, v, second, had[5], api.Entry{}, had[7])
		had[4] = api.Entry{Name: l[6], Node: 21}
		c = adds(t, v, 2, c, l[6], 21)
		blockIs(t, v, first, had[:5]...)
		had[6] = api.Entry{Name: l[2], Node: 22}
		c = adds(t, v, 2, c, l[2], 22)
		blockIs(t, v, second, had[5:]...)
		c = adds(t, v, 2, c, l[9], 23)
		blockIs(t, v, second, append(had[5:8:8], api.Entry{Name: l[9], Node: 23})...)
		if store.Free(v) != blocks {
			t.Fatal("a block was taken, though there was room")
		}
	}
}

// P11.1: a name that is dropped and added again, with another number; a short one where a long one stood.
func TestDroppedAndAddedAgain(t *testing.T) {
	for bucket := range 8 {
		var long string
		for i := 0; bucketOf(long) != bucket || long == ""; i++ {
			long = ("zzzzzzzzzzzzzz" + strconv.Itoa(i))[len(strconv.Itoa(i)):]
		}
		short := namesOf(bucket, 1)[0]
		v := empty(t)
		c := adds(t, v, 2, fresh(), long, 23)
		for i := range 3 {
			c = drops(t, v, 2, c, long, 23-i)
			lists(t, v, c)
			c = adds(t, v, 2, c, short, 1)
			blockIs(t, v, 0, api.Entry{Name: short, Node: 1})
			c = drops(t, v, 2, c, short, 1)
			blockIs(t, v, 0)
			c = adds(t, v, 2, c, long, 22-i)
			blockIs(t, v, 0, api.Entry{Name: long, Node: 22 - i})
		}
		lists(t, v, c, api.Entry{Name: long, Node: 20})
	}
}

// P11.1: holes, full blocks and blocks with room, each way round in a bucket's places: the first entry that is empty, and if there is none the first hole.
func TestHolesAmongTheBucketsPlaces(t *testing.T) {
	for bucket := range 8 {
		places := placesOf(bucket)
		ways := 1
		for range places {
			ways *= 3
		}
		for way := range ways {
			holesInOneWay(t, bucket, way)
		}
	}
}

// holesInOneWay lays out a bucket's places by the digits of way, in threes: 0 a hole, 1 a full block, 2 a block whose fourth entry is empty; and adds a name.
func holesInOneWay(t *testing.T, bucket, way int) {
	t.Helper()
	v := left(t, 40)
	places, l := placesOf(bucket), namesOf(bucket, 16)
	blocks, room, hole := map[int]int{}, -1, -1
	var had []api.Entry
	for i, place := range places {
		kind := way % 3
		way /= 3
		if kind == 0 {
			if hole == -1 {
				hole = place
			}
			continue
		}
		blocks[place] = 50 - i
		entries := numbered(1, l[5*i:5*i+5]...)
		if kind == 2 {
			entries[3] = api.Entry{}
			if room == -1 {
				room = place
			}
		}
		ok(t, v.SetBlock(50-i, laid(entries...)))
		had = append(had, slices.DeleteFunc(entries, func(x api.Entry) bool { return x.Node == 0 })...)
	}
	c := withMap(t, v, len(had), 33, blocks)
	slices.SortFunc(had, func(a, b api.Entry) int { return strings.Compare(a.Name, b.Name) })
	lists(t, v, c, had...)
	goesTo(t, v, c, l[15], room, hole, blocks)
}

// goesTo asks that a name goes to the fourth entry of the place room; or, where that is -1, to the first one of a new block in the place hole; or that it finds no room, where both are -1.
func goesTo(t *testing.T, v *view.View, c api.Card, name string, room, hole int, blocks map[int]int) {
	t.Helper()
	before, free := shows(v), store.Free(v)
	if room == -1 && hole == -1 {
		addFails(t, v, 2, c, name, 9, api.ErrSpace)
		return
	}
	got := adds(t, v, 2, c, name, 9)
	entry := append([]uint64{9}, textOf(name)...)
	if room != -1 {
		words := map[int]uint64{}
		for i, w := range entry {
			words[blocksAt+16*blocks[room]+9+i] = w
		}
		before.but(t, v, words)
		mapIs(t, v, got, c.More, blocks)
		return
	}
	blocks[hole] = 56
	more := c.More
	if more == -1 && hole >= 5 {
		more = 57
		free--
	}
	mapIs(t, v, got, more, blocks)
	blockIs(t, v, 56, api.Entry{Name: name, Node: 9})
	if store.Free(v) != free-1 || v.Read(ownersAt+56) != 3 {
		t.Fatalf("%d blocks are free, and 56 is of %d", store.Free(v), v.Read(ownersAt+56))
	}
}

// P11.1: the block of a name that needs one is the lowest that is fresh; those that are to be left alone aren't.
func TestAddTakesTheLowestFreshBlock(t *testing.T) {
	v := left(t, 10)
	v.Avoid([]int{86, 88, 89}, nil)
	c := adds(t, v, 2, fresh(), namesOf(6, 1)[0], 3)
	mapIs(t, v, c, 90, map[int]int{6: 87})
	c = adds(t, v, 2, c, namesOf(1, 1)[0], 3)
	mapIs(t, v, c, 90, map[int]int{6: 87, 1: 91})
}

// P11.1: no block is fresh, or none for More: names find room in blocks that are there alone.
func TestNoBlockIsFresh(t *testing.T) {
	for bucket := range 8 {
		l := namesOf(bucket, 16)
		addFails(t, left(t, 0), 2, fresh(), l[0], 3, api.ErrSpace)
		v := left(t, 0)
		ok(t, v.SetBlock(9, laid(numbered(4, l[:4]...)...)))
		c := withMap(t, v, 4, 10, map[int]int{bucket: 9})
		c = adds(t, v, 2, c, l[4], 8)
		addFails(t, v, 2, c, l[5], 8, api.ErrSpace)
		addFails(t, v, 2, c, l[4], 8, api.ErrThere)
		addFails(t, v, 2, c, namesOf((bucket+1)%8, 1)[0], 8, api.ErrSpace)
		c = drops(t, v, 2, c, l[1], 5)
		c = adds(t, v, 2, c, l[5], 9)
		want := numbered(4, l[:5]...)
		want[1] = api.Entry{Name: l[5], Node: 9}
		blockIs(t, v, 9, want...)
	}
}

// P11.1: one block is fresh: it is enough where More isn't needed, or is there.
func TestOneBlockIsFresh(t *testing.T) {
	for bucket := range 8 {
		l := namesOf(bucket, 16)
		v := left(t, 1)
		if bucket < 5 {
			c := adds(t, v, 2, fresh(), l[0], 3)
			mapIs(t, v, c, -1, map[int]int{bucket: 95})
			addFails(t, v, 2, c, namesOf((bucket+1)%8, 1)[0], 3, api.ErrSpace)
		} else if c, e := folder.Add(v, 2, fresh(), l[0], 3); c != (api.Card{}) || e != api.ErrSpace {
			t.Fatal(c, e)
		}
		v = left(t, 1)
		c := withMap(t, v, 0, 40, map[int]int{15 - bucket: 41})
		c = adds(t, v, 2, c, l[0], 3)
		mapIs(t, v, c, 40, map[int]int{15 - bucket: 41, bucket: 95})
		v = left(t, 2)
		c = adds(t, v, 2, fresh(), l[0], 3)
		finds(t, v, c, l[0], 3)
	}
}

// P11.1: a full block of a bucket, and one fresh block for the next one, but none for More.
func TestNoBlockForMore(t *testing.T) {
	for bucket := range 5 {
		for n := range 3 {
			v := left(t, n)
			l := namesOf(bucket, 6)
			ok(t, v.SetBlock(9, laid(numbered(4, l[:5]...)...)))
			c := withMap(t, v, 5, 10, map[int]int{bucket: 9})
			if n == 2 {
				c = adds(t, v, 2, c, l[5], 3)
				mapIs(t, v, c, 95, map[int]int{bucket: 9, bucket + 8: 94})
			} else if got, e := folder.Add(v, 2, c, l[5], 3); got != (api.Card{}) || e != api.ErrSpace {
				t.Fatal(got, e)
			}
		}
	}
}

// P11.1: each of a block's entries is dropped; the others stay where they are, and no word beside is another one.
func TestDrop(t *testing.T) {
	for bucket := range 8 {
		for i := range 5 {
			v := left(t, 40)
			l := namesOf(bucket, 5)
			entries := numbered(19, l...)
			ok(t, v.SetBlock(7, laid(entries...)))
			c := withMap(t, v, 5, 8, map[int]int{bucket: 7})
			before := shows(v)
			c = drops(t, v, 2, c, l[i], 19+i)
			at := blocksAt + 16*7 + 3*i
			before.but(t, v, map[int]uint64{at: 0, at + 1: 0, at + 2: 0})
			dropFails(t, v, 2, c, l[i], api.ErrNone)
			rest := slices.Delete(slices.Clone(entries), i, i+1)
			slices.Reverse(rest)
			lists(t, v, c, rest...)
		}
	}
}

// P11.1: the last name of a block, and all names: the block stays, as does More, and has room for the next name.
func TestDropOfTheLastNames(t *testing.T) {
	for bucket := range 8 {
		v, c := empty(t), fresh()
		l := namesOf(bucket, 6)
		for i, name := range l {
			c = adds(t, v, 2, c, name, i+1)
		}
		had, free := ownedBy(v, 2), store.Free(v)
		m, e := body.Map(v, c)
		ok(t, e)
		blocks := map[int]int{bucket: m[bucket], bucket + 8: m[bucket+8]}
		more := c.More
		for i, name := range l {
			c = drops(t, v, 2, c, name, i+1)
			mapIs(t, v, c, more, blocks)
			if i == 4 {
				blockIs(t, v, m[bucket])
				lists(t, v, c, api.Entry{Name: l[5], Node: 6})
			}
		}
		blockIs(t, v, m[bucket])
		blockIs(t, v, m[bucket+8])
		lists(t, v, c)
		ownsJust(t, v, 2, had...)
		c = adds(t, v, 2, c, l[5], 6)
		blockIs(t, v, m[bucket], api.Entry{Name: l[5], Node: 6})
		if store.Free(v) != free {
			t.Fatal("other blocks are free now")
		}
		clears(t, v, 2, c, had...)
	}
}

// P11.1, R1, R2, R3: files that there are not, ahead of the other errors; names that aren't there, or may not be.
func TestDropRefused(t *testing.T) {
	v := empty(t)
	dir := adds(t, v, 2, fresh(), "a", 3)
	corrupt, file := dir, dir
	corrupt.Size, file.Kind = 2, api.Link
	for _, name := range append(badNames(), "a", "b") {
		for _, c := range []api.Card{dir, corrupt, file} {
			for _, node := range outside(24) {
				dropFails(t, v, node, c, name, api.ErrArg)
			}
		}
		for _, node := range []int{0, 2, 23} {
			dropFails(t, v, node, file, name, api.ErrNotDir)
			dropFails(t, v, node, corrupt, name, api.ErrCorrupt)
			if name != "a" {
				dropFails(t, v, node, dir, name, api.ErrNone)
			}
			dropFails(t, v, node, fresh(), name, api.ErrNone)
		}
	}
	for bucket := range 8 {
		l := namesOf(bucket, 2)
		v := empty(t)
		c := adds(t, v, 2, fresh(), l[0], 3)
		dropFails(t, v, 2, c, l[1], api.ErrNone)
		dropFails(t, v, 2, c, l[0]+"\x00", api.ErrNone)
		c = drops(t, v, 2, c, l[0], 3)
		dropFails(t, v, 2, c, l[0], api.ErrNone)
	}
}

// P11.1: Add and Drop for each number at the edges; the card says which directory it is.
func TestDropForEachFile(t *testing.T) {
	for _, node := range []int{0, 1, 23} {
		v := empty(t)
		c := adds(t, v, 2, fresh(), "a", 3)
		c = adds(t, v, node, c, "b", 4)
		c = drops(t, v, node, c, "a", 3)
		lists(t, v, c, api.Entry{Name: "b", Node: 4})
	}
}

// P11.1: of no, one and many names; with More and without, with holes, and with blocks that are empty.
func TestClear(t *testing.T) {
	for _, node := range []int{0, 2, 23} {
		v := empty(t)
		clears(t, v, node, fresh())
		for bucket := range 8 {
			name, blocks := namesOf(bucket, 1)[0], []int{0}
			if bucket >= 5 {
				blocks = []int{0, 1}
			}
			c := fresh()
			c.Links, c.Version = bucket, greatest
			clears(t, v, node, adds(t, v, node, c, name, 3), blocks...)
			clears(t, v, node, drops(t, v, node, adds(t, v, node, c, name, 3), name, 3), blocks...)
		}
		c := fresh()
		for bucket := range 8 {
			for i, name := range namesOf(bucket, 7) {
				c = adds(t, v, node, c, name, i+1)
			}
		}
		clears(t, v, node, c, numbers(17)...)
		if store.Free(v) != 96 {
			t.Fatal(store.Free(v))
		}
	}
}

// P11.1: blocks of the memory are free in the view; they aren't fresh till the memory has it so. Those of other files stay.
func TestClearOfBlocksOfTheMemory(t *testing.T) {
	m := holding(nil)
	v := of(t, m)
	c, other := fresh(), fresh()
	for bucket := range 8 {
		c = adds(t, v, 2, c, namesOf(bucket, 1)[0], 3)
		other = adds(t, v, 3, other, namesOf(bucket, 1)[0], 4)
	}
	makes(t, m, v)
	v.Reset()
	own, others := ownedBy(v, 2), ownedBy(v, 3)
	if len(own) != 9 || len(others) != 9 {
		t.Fatal(own, others)
	}
	got := clears(t, v, 2, c, own...)
	if store.Free(v) != 78 {
		t.Fatal(store.Free(v))
	}
	got = adds(t, v, 2, got, namesOf(0, 1)[0], 5)
	if got.Direct[0] != 18 {
		t.Fatal(got)
	}
	ownsJust(t, v, 3, others...)
	finds(t, v, other, namesOf(7, 1)[0], 4)
	makes(t, m, v)
	v.Reset()
	if store.Free(v) != 86 {
		t.Fatal(store.Free(v))
	}
}

// makes makes a view's changes in its memory, as a commit would.
func makes(t *testing.T, m *memory.Memory, v *view.View) {
	t.Helper()
	for _, c := range v.Changes() {
		ok(t, m.Store(c.At, c.V))
	}
}

// P11.1, R1, R2, R3: files that there are not, ahead of the other errors; a block that is free already can't be given back.
func TestClearRefused(t *testing.T) {
	v := empty(t)
	dir := adds(t, v, 2, fresh(), "a", 3)
	corrupt, file := dir, dir
	corrupt.Size, file.Kind = 2, api.Free
	for _, c := range []api.Card{dir, corrupt, file} {
		for _, node := range outside(24) {
			clearFails(t, v, node, c, api.ErrArg)
		}
	}
	clearFails(t, v, 2, file, api.ErrNotDir)
	clearFails(t, v, 2, corrupt, api.ErrCorrupt)
	for _, x := range []struct{ owner, more uint64 }{{0, 3}, {3, 0}, {0, 0}} {
		v := of(t, holding(map[int]uint64{ownersAt + 8: x.owner, ownersAt + 9: x.more}))
		c := withMap(t, v, 0, 9, map[int]int{20: 8})
		lists(t, v, c)
		if got, e := folder.Clear(v, 2, c); got != (api.Card{}) || e != api.ErrCorrupt {
			t.Fatal(got, e)
		}
	}
}

// P11.1: a directory whose blocks are empty of names, but there, in each place, is like one without.
func TestBlocksThatAreEmptyOfNames(t *testing.T) {
	v := left(t, 3)
	blocks := map[int]int{}
	for place := range 21 {
		blocks[place] = 20 + place
	}
	c := withMap(t, v, 0, 7, blocks)
	lists(t, v, c)
	findsNone(t, v, c, "a", "", ".", "n999")
	dropFails(t, v, 2, c, "a", api.ErrNone)
	for bucket := range 8 {
		name := namesOf(bucket, 1)[0]
		got := adds(t, v, 2, c, name, 6)
		mapIs(t, v, got, 7, blocks)
		blockIs(t, v, 20+bucket, api.Entry{Name: name, Node: 6})
		drops(t, v, 2, got, name, 6)
	}
	clears(t, v, 2, c, append(numbers(41)[20:], 7)...)
}

// P11.1: names in each entry of each place of their bucket, with holes ahead of them, are there.
func TestNamesInEachEntry(t *testing.T) {
	for place := range 21 {
		for i := range 5 {
			v := left(t, 3)
			name := namesOf(place%8, 1)[0]
			entries := make([]api.Entry, i+1)
			entries[i] = api.Entry{Name: name, Node: 23}
			ok(t, v.SetBlock(95, laid(entries...)))
			c := withMap(t, v, 1, 0, map[int]int{place: 95})
			lists(t, v, c, entries[i])
			c = drops(t, v, 2, c, name, 23)
			lists(t, v, c)
			blockIs(t, v, 95)
		}
	}
}

// R4: lists are new memory each time.
func TestListsAreNewMemory(t *testing.T) {
	v := empty(t)
	c := adds(t, v, 2, adds(t, v, 2, fresh(), "a", 3), "b", 4)
	l, e := folder.List(v, c)
	ok(t, e)
	l[0], l[1] = api.Entry{Name: "z", Node: 9}, api.Entry{}
	lists(t, v, c, numbered(3, "a", "b")...)
}

// P11.1: nothing is kept but the view: the memory is as it was, no call of it counts, and no card is noted, read or set.
func TestTheMemoryIsLeftAlone(t *testing.T) {
	m := holding(nil)
	image, calls := m.Image(), m.Calls()
	v := of(t, m)
	c := fresh()
	for bucket := range 8 {
		c = adds(t, v, 2, c, namesOf(bucket, 1)[0], 3)
	}
	c = drops(t, v, 2, c, namesOf(1, 1)[0], 3)
	clears(t, v, 2, c, numbers(9)...)
	if !slices.Equal(m.Image(), image) || m.Calls() != calls || len(m.Loose()) != 0 {
		t.Error("the memory is another one")
	}
	if len(v.Seen())+len(v.Mine()) != 0 {
		t.Error("cards are noted")
	}
}
