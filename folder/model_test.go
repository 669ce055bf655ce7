package folder_test

import (
	"math/rand"
	"slices"
	"strconv"
	"testing"

	"escritoire/api"
	"escritoire/body"
	"escritoire/cards"
	"escritoire/folder"
	"escritoire/memory"
	"escritoire/store"
	"escritoire/view"
)

// plain is a directory as the chapter tells it: which of its places have a block, and what stands in the entries of each.
type plain struct {
	node int
	card api.Card
	has  [21]bool
	at   [21][5]api.Entry
}

// find is where a name stands: its place and its entry.
func (p *plain) find(name string) (int, int, bool) {
	for place := range p.at {
		for i, x := range p.at[place] {
			if x.Node != 0 && x.Name == name {
				return place, i, true
			}
		}
	}
	return 0, 0, false
}

// room is where a name of a bucket is to stand, and whether there is room at all.
func (p *plain) room(bucket int) (int, int, bool) {
	for _, place := range placesOf(bucket) {
		for i, x := range p.at[place] {
			if p.has[place] && x.Node == 0 {
				return place, i, true
			}
		}
	}
	for _, place := range placesOf(bucket) {
		if !p.has[place] {
			return place, 0, true
		}
	}
	return 0, 0, false
}

// needs is how many blocks the directory has, More's among them.
func (p *plain) needs() int {
	n, more := 0, 0
	for place, has := range p.has {
		if has {
			n++
		}
		if has && place >= 5 {
			more = 1
		}
	}
	return n + more
}

// names is all names, in order.
func (p *plain) names() []api.Entry {
	var l []api.Entry
	for _, entries := range p.at {
		for _, x := range entries {
			if x.Node != 0 {
				l = append(l, x)
			}
		}
	}
	slices.SortFunc(l, func(a, b api.Entry) int {
		if a.Name < b.Name {
			return -1
		}
		return 1
	})
	return l
}

// desk is directories of one view, and their models.
type desk struct {
	t    *testing.T
	r    *rand.Rand
	m    *memory.Memory
	v    *view.View
	pool []string
	dirs []*plain // as the view has them
	made []*plain // as the memory has them
}

// newDesk is a desk of three directories, over a memory whose blocks hold what is no directory's; so many of them may be taken.
func newDesk(t *testing.T, seed int64, blocks int) *desk {
	t.Helper()
	l := map[int]uint64{}
	for block := range 96 {
		if block*blocks/96 == (block+1)*blocks/96 {
			l[ownersAt+block] = 24
		}
	}
	for at := blocksAt; at < size; at++ {
		l[at] = greatest / uint64(at)
	}
	x := &desk{t: t, r: rand.New(rand.NewSource(seed)), m: holding(l)}
	x.v = of(t, x.m)
	for _, node := range []int{1, 2, 22} {
		x.dirs = append(x.dirs, &plain{node: node, card: fresh()})
	}
	x.made = copies(x.dirs)
	x.pool = []string{"", "a", "a.", "a-long.name_of"}
	for bucket := range 8 {
		// Some buckets get more names than they have room for.
		n := 4
		if bucket == int(seed)%8 || bucket == int(seed+3)%8 {
			n = 40
		}
		x.pool = append(x.pool, namesOf(bucket, n)...)
	}
	return x
}

// name is a name, or what may not be one.
func (x *desk) name() string {
	return x.pool[x.r.Intn(len(x.pool))]
}

// add adds a name, where there is room for it; where there are no blocks for it, all is undone.
func (x *desk) add(p *plain) {
	x.t.Helper()
	name, target := x.name(), x.r.Intn(23)+1
	had, free := p.needs(), store.Free(x.v)
	c, e := folder.Add(x.v, p.node, p.card, name, target)
	want := api.OK
	_, _, there := p.find(name)
	place, i, room := p.room(bucketOf(name))
	switch {
	case name == "":
		want = api.ErrName
	case there:
		want = api.ErrThere
	case !room:
		want = api.ErrSpace
	}
	if want != api.OK {
		if c != (api.Card{}) || e != want {
			x.t.Fatalf("Add of %q: %v %d, not error %d", name, c, e, want)
		}
		return
	}
	p.has[place], p.at[place][i] = true, api.Entry{Name: name, Node: target}
	if p.needs()-had > free {
		if c != (api.Card{}) || e != api.ErrSpace {
			x.t.Fatalf("Add of %q, %d blocks left: %v %d", name, free, c, e)
		}
		x.undo()
		return
	}
	ok(x.t, e)
	p.card = c
}

// drop drops a name, where it is there.
func (x *desk) drop(p *plain) {
	x.t.Helper()
	name := x.name()
	if l := p.names(); len(l) > 0 && x.r.Intn(3) > 0 {
		name = l[x.r.Intn(len(l))].Name
	}
	place, i, there := p.find(name)
	if !there {
		dropTells(x.t, x.v, p.node, p.card, name, api.ErrNone)
		return
	}
	p.card = drops(x.t, x.v, p.node, p.card, name, p.at[place][i].Node)
	p.at[place][i] = api.Entry{}
}

// clear makes a directory one without names and blocks.
func (x *desk) clear(p *plain) {
	x.t.Helper()
	c, e := folder.Clear(x.v, p.node, p.card)
	ok(x.t, e)
	p.card, p.has, p.at = c, [21]bool{}, [21][5]api.Entry{}
	ownsJust(x.t, x.v, p.node)
}

// commit makes the view's changes in the memory, so that blocks that were given back are fresh.
func (x *desk) commit() {
	makes(x.t, x.m, x.v)
	x.v.Reset()
	x.made = copies(x.dirs)
}

// undo makes all as it was when the changes were made last.
func (x *desk) undo() {
	x.v.Reset()
	x.dirs = copies(x.made)
}

// copies answers directories that share nothing with these.
func copies(dirs []*plain) []*plain {
	var l []*plain
	for _, p := range dirs {
		c := *p
		l = append(l, &c)
	}
	return l
}

// right asks that each directory has its names, each where it is to stand, and just its blocks, each as its own.
func (x *desk) right() {
	x.t.Helper()
	owners := map[int]int{}
	for _, p := range x.dirs {
		l, e := folder.List(x.v, p.card)
		if e != api.OK || !slices.Equal(l, p.names()) {
			x.t.Fatalf("file %d: %v %d, not %v", p.node, l, e, p.names())
		}
		name := x.name()
		if place, i, there := p.find(name); there {
			finds(x.t, x.v, p.card, name, p.at[place][i].Node)
		} else if n, found, e := folder.Find(x.v, p.card, name); n != 0 || found || e != api.OK {
			x.t.Fatal(name, n, found, e)
		}
		if p.card.Size != len(l) || p.card.Version != 7 || p.card.Links != 1 || !cards.Right(p.card) {
			x.t.Fatal(p.card)
		}
		x.has(p, owners)
	}
	for block := range 96 {
		w := x.v.Read(ownersAt + block)
		if w != 24 && int(w) != owners[block] {
			x.t.Fatalf("block %d: %d, not %d", block, w, owners[block])
		}
	}
	if len(x.v.Seen())+len(x.v.Mine()) != 0 {
		x.t.Fatal("cards are noted")
	}
}

// has asks that a directory has a block just where its model has one, with its entries, and notes whose they are; none may be noted already.
func (x *desk) has(p *plain, owners map[int]int) {
	x.t.Helper()
	m, e := body.Map(x.v, p.card)
	ok(x.t, e)
	n := 0
	for place, block := range append(m, p.card.More) {
		if place < 21 && p.has[place] != (block != -1) {
			x.t.Fatalf("file %d has the block %d in the place %d", p.node, block, place)
		}
		if block == -1 {
			continue
		}
		if owners[block] != 0 {
			x.t.Fatalf("block %d is had twice", block)
		}
		owners[block] = p.node + 1
		n++
		if place < 21 {
			blockIs(x.t, x.v, block, p.at[place][:]...)
		}
	}
	if n != p.needs() {
		x.t.Fatalf("file %d has %d blocks, not %d", p.node, n, p.needs())
	}
}

// P11.1, P11.2: random rows of names that are added, dropped and cleared in three directories of one view, held against plain ones; blocks may run out, and the changes are made from time to time.
func TestRandomRows(t *testing.T) {
	for seed := range int64(24) {
		x := newDesk(t, seed, []int{96, 50, 35, 20}[seed/2%4])
		for range 300 {
			p := x.dirs[x.r.Intn(3)]
			switch n := x.r.Intn(100); {
			case n < 1 && x.r.Intn(2) == 0:
				x.clear(p)
			case n < 30:
				x.drop(p)
			default:
				x.add(p)
			}
			x.right()
			if x.r.Intn(4) == 0 {
				x.commit()
				x.right()
			}
		}
		x.commit()
		for _, p := range x.dirs {
			x.clear(p)
		}
		x.right()
	}
}

// P11.2: two directories of one view that grow in turn, with the same names: neither has, or touches, a block of the other one.
func TestTwoDirectoriesInTurn(t *testing.T) {
	v := empty(t)
	a, b := fresh(), fresh()
	var ofA, ofB []api.Entry
	for i := range 50 {
		name := "t" + strconv.Itoa(100+i)
		before := shows(v)
		a = adds(t, v, 4, a, name, i%23+1)
		othersStay(t, v, before, 4)
		before = shows(v)
		b = adds(t, v, 5, b, name, 23-i%23)
		othersStay(t, v, before, 5)
		ofA = append(ofA, api.Entry{Name: name, Node: i%23 + 1})
		ofB = append(ofB, api.Entry{Name: name, Node: 23 - i%23})
	}
	lists(t, v, a, ofA...)
	lists(t, v, b, ofB...)
	for range 20 {
		before := shows(v)
		a = drops(t, v, 4, a, ofA[0].Name, ofA[0].Node)
		othersStay(t, v, before, 4)
		ofA = ofA[1:]
	}
	lists(t, v, a, ofA...)
	lists(t, v, b, ofB...)
	clears(t, v, 5, b, ownedBy(v, 5)...)
	lists(t, v, a, ofA...)
	clears(t, v, 4, a, ownedBy(v, 4)...)
	if store.Free(v) != 96 {
		t.Fatal(store.Free(v))
	}
}

// othersStay asks that of owners and blocks just those that were free, or a file's, are other ones than ahead.
func othersStay(t *testing.T, v *view.View, before shown, node int) {
	t.Helper()
	for at, w := range before.words {
		block := at - ownersAt
		if at >= blocksAt {
			block = (at - blocksAt) / 16
		}
		if w == v.Read(at) {
			continue
		}
		if block < 0 || block > 95 {
			t.Fatalf("word %d is another one", at)
		}
		if owner := before.words[ownersAt+block]; owner != 0 && owner != uint64(node)+1 {
			t.Fatalf("word %d of file %d is another one", at, owner-1)
		}
	}
}
