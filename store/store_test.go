package store_test

import (
	"math"
	"slices"
	"testing"

	"escritoire/api"
	"escritoire/cards"
	"escritoire/memory"
	"escritoire/plan"
	"escritoire/store"
	"escritoire/view"
)

const (
	size     = 2824
	cardsAt  = 8
	ownersAt = 200
	blocksAt = 1288
	greatest = math.MaxUint64
)

// holding is a memory of the plan, with these words beside the head.
func holding(words map[int]uint64) *memory.Memory {
	l := make([]uint64, size)
	copy(l, plan.Head())
	for at, w := range words {
		l[at] = w
	}
	return memory.Load(l)
}

// empty is a memory of the plan without files.
func empty() *memory.Memory { return holding(nil) }

// owned is a memory whose blocks all have an owner, but for these.
func owned(free ...int) *memory.Memory {
	words := map[int]uint64{}
	for block := range 96 {
		if !slices.Contains(free, block) {
			words[ownersAt+block] = 3
		}
	}
	return holding(words)
}

// filed is a memory in which all numbers are files', but for these.
func filed(free ...int) *memory.Memory {
	words := map[int]uint64{}
	for node := range 24 {
		if !slices.Contains(free, node) {
			words[cardsAt+8*node] = 257
		}
	}
	return holding(words)
}

// of is a new view of a memory.
func of(t *testing.T, m *memory.Memory) *view.View {
	t.Helper()
	v := view.New(m)
	if v == nil {
		t.Fatal("no view")
	}
	return v
}

// outside is numbers that none of n things has.
func outside(n int) []int {
	return []int{-1, -2, -16, n, n + 1, 4096, 1 << 32, 1<<32 + 1, 1 << 60, math.MinInt, math.MinInt + 1, math.MaxInt - 1, math.MaxInt}
}

// fresh is the fresh card of a kind.
func fresh(kind int, version uint64) api.Card {
	return api.Card{Kind: kind, Links: 1, Version: version, Direct: [api.Direct]int{-1, -1, -1, -1, -1}, More: -1}
}

// none is the card of no file.
func none(version uint64) api.Card {
	c := fresh(0, version)
	c.Links = 0
	return c
}

// ok asks that every call answered OK.
func ok(t *testing.T, l ...api.Errno) {
	t.Helper()
	for i, e := range l {
		if e != api.OK {
			t.Fatalf("call %d: error %d", i, e)
		}
	}
}

// takes asks that a block is taken for a file: the owner's word and all the block's words.
func takes(t *testing.T, v *view.View, node, want int) {
	t.Helper()
	block, e := store.Take(v, node)
	if block != want || e != api.OK {
		t.Fatalf("Take for %d: block %d, error %d, not block %d", node, block, e, want)
	}
	if w := v.Read(ownersAt + block); w != uint64(node)+1 {
		t.Fatalf("the owner's word of block %d: %d, not file %d and 1", block, w, node)
	}
	if l, e := v.Block(block); e != api.OK || !slices.Equal(l, make([]uint64, 16)) {
		t.Fatalf("block %d: %v %d", block, l, e)
	}
}

// takesNone asks that there is no block for a file.
func takesNone(t *testing.T, v *view.View, node int, want api.Errno) {
	t.Helper()
	before := shows(v)
	if block, e := store.Take(v, node); block != 0 || e != want {
		t.Fatalf("Take for %d: block %d, error %d, not error %d", node, block, e, want)
	}
	before.still(t, v)
}

// ownerIs asks who has a block.
func ownerIs(t *testing.T, v *view.View, block, want int, wantE api.Errno) {
	t.Helper()
	before := shows(v)
	if node, e := store.Owner(v, block); node != want || e != wantE {
		t.Fatalf("Owner of %d: %d %d, not %d %d", block, node, e, want, wantE)
	}
	before.still(t, v)
}

// freeAre asks how many blocks are fresh.
func freeAre(t *testing.T, v *view.View, want int) {
	t.Helper()
	before := shows(v)
	if n := store.Free(v); n != want {
		t.Fatalf("Free: %d, not %d", n, want)
	}
	before.still(t, v)
}

// dropFails asks that a block isn't given back.
func dropFails(t *testing.T, v *view.View, block int, want api.Errno) {
	t.Helper()
	before := shows(v)
	if e := store.Drop(v, block); e != want {
		t.Fatalf("Drop of %d: %d, not %d", block, e, want)
	}
	before.still(t, v)
}

// numbers asks that a number is taken for a file of a kind, and that its words are its fresh card's.
func numbers(t *testing.T, v *view.View, kind, want int, version uint64) {
	t.Helper()
	node, e := store.Node(v, kind)
	if node != want || e != api.OK {
		t.Fatalf("Node of kind %d: %d, error %d, not %d", kind, node, e, want)
	}
	wordsAre(t, v, node, uint64(kind)+256, version)
	if !slices.Contains(v.Mine(), node) || !slices.Contains(v.Seen(), node) {
		t.Fatalf("%d is not noted as set: %v %v", node, v.Seen(), v.Mine())
	}
}

// wordsAre asks for the words of a card, behind whose first two are six words 0.
func wordsAre(t *testing.T, v *view.View, node int, first, version uint64) {
	t.Helper()
	for i, w := range []uint64{first, version, 0, 0, 0, 0, 0, 0} {
		if got := v.Read(cardsAt + 8*node + i); got != w {
			t.Fatalf("word %d of the card of %d: %d, not %d", i, node, got, w)
		}
	}
}

// numbersNone asks that there is no number for a file of a kind.
func numbersNone(t *testing.T, v *view.View, kind int, want api.Errno) {
	t.Helper()
	before := shows(v)
	if node, e := store.Node(v, kind); node != 0 || e != want {
		t.Fatalf("Node of kind %d: %d, error %d, not error %d", kind, node, e, want)
	}
	before.still(t, v)
}

// notedAre asks that just these files' cards were read or set, and these were set.
func notedAre(t *testing.T, v *view.View, seen, mine []int) {
	t.Helper()
	if s, m := v.Seen(), v.Mine(); !slices.Equal(s, seen) || !slices.Equal(m, mine) {
		t.Fatalf("seen %v, mine %v, not %v, %v", s, m, seen, mine)
	}
}

// shown is what a view can be asked for.
type shown struct {
	words, changed []uint64
	seen, mine     []int
}

// shows answers what a view shows now.
func shows(v *view.View) shown {
	s := shown{seen: v.Seen(), mine: v.Mine()}
	for at := range size {
		s.words = append(s.words, v.Read(at))
	}
	for _, c := range v.Changes() {
		s.changed = append(s.changed, uint64(c.At), c.V)
	}
	return s
}

// still asks that a view shows what it showed.
func (s shown) still(t *testing.T, v *view.View) {
	t.Helper()
	now := shows(v)
	if !slices.Equal(now.words, s.words) || !slices.Equal(now.changed, s.changed) {
		t.Fatal("words are other ones now")
	}
	notedAre(t, v, s.seen, s.mine)
}

// makes makes a view's changes in its memory, as a commit would.
func makes(t *testing.T, m *memory.Memory, v *view.View) {
	t.Helper()
	for _, c := range v.Changes() {
		ok(t, m.Store(c.At, c.V))
	}
}

// P9.1: the chapter's example.
func TestExample(t *testing.T) {
	v := of(t, empty())
	for i := range 3 {
		takes(t, v, 7, i)
		numbers(t, v, api.File, 2+i, 1)
	}
}

// P9.1: each file number at its edges, and those past them; a file needs no card for it, and none is noted.
func TestTakeForEachFile(t *testing.T) {
	v := of(t, empty())
	for node := range 24 {
		takes(t, v, node, node)
		ownerIs(t, v, node, node, api.OK)
	}
	for _, node := range outside(24) {
		takesNone(t, v, node, api.ErrArg)
	}
	freeAre(t, v, 72)
	notedAre(t, v, nil, nil)
	full := of(t, owned())
	takesNone(t, full, -1, api.ErrArg)
	takesNone(t, full, 24, api.ErrArg)
	takesNone(t, full, 0, api.ErrSpace)
}

// P9.1: all blocks, from the lowest on, and then there is none.
func TestTakeOfAllBlocks(t *testing.T) {
	v := of(t, empty())
	for block := range 96 {
		freeAre(t, v, 96-block)
		takes(t, v, block%24, block)
	}
	freeAre(t, v, 0)
	takesNone(t, v, 5, api.ErrSpace)
	for block := range 96 {
		ownerIs(t, v, block, block%24, api.OK)
	}
	if n := len(v.Changes()); n != 96 {
		t.Errorf("%d changes, where the owners alone are other ones", n)
	}
	ok(t, store.Drop(v, 95), store.Drop(v, 40))
	takes(t, v, 1, 40)
	takes(t, v, 2, 95)
	takesNone(t, v, 3, api.ErrSpace)
	v.Reset()
	freeAre(t, v, 96)
	takes(t, v, 4, 0)
}

// P9.1: the one block that is fresh, wherever it lies; no other word becomes another one.
func TestTakeOfTheOnlyBlock(t *testing.T) {
	for _, block := range []int{0, 1, 47, 94, 95} {
		v := of(t, owned(block))
		freeAre(t, v, 1)
		takes(t, v, 23, block)
		if l := v.Changes(); len(l) != 1 || l[0] != (api.Change{At: ownersAt + block, V: 24}) {
			t.Errorf("block %d: changes %v", block, l)
		}
		takesNone(t, v, 23, api.ErrSpace)
	}
}

// P9.1: what stood in a block, in the memory or in the view, is gone, and not a word of its neighbours.
func TestTakeMakesTheWordsZero(t *testing.T) {
	for _, block := range []int{0, 1, 95} {
		m := owned(block)
		for at := blocksAt; at < size; at++ {
			ok(t, m.Store(at, uint64(at)))
		}
		for _, inView := range []bool{false, true} {
			v := of(t, m)
			if inView {
				ok(t, v.Write(blocksAt+16*block, 9), v.Write(blocksAt+16*block+15, greatest))
			}
			takes(t, v, 2, block)
			for at := blocksAt; at < size; at++ {
				if (at-blocksAt)/16 != block && v.Read(at) != uint64(at) {
					t.Fatalf("word %d is %d", at, v.Read(at))
				}
			}
			if n := len(v.Changes()); n != 17 {
				t.Errorf("%d changes", n)
			}
		}
	}
}

// P9.1: a block that the view took and gave back is fresh again, and its words are 0 once more.
func TestTakeOfABlockTheViewTookAndGaveBack(t *testing.T) {
	v := of(t, empty())
	takes(t, v, 2, 0)
	takes(t, v, 2, 1)
	ok(t, v.SetBlock(0, []uint64{7, 8}), store.Drop(v, 0))
	freeAre(t, v, 95)
	ownerIs(t, v, 0, -1, api.OK)
	if v.Read(blocksAt) != 7 {
		t.Error("Drop changed the block's words")
	}
	takes(t, v, 3, 0)
	takes(t, v, 3, 2)
}

// P9.1: a block that the view gave back is still its file's in the memory: it is fresh for the next view, once the memory has it.
func TestABlockGivenBackIsForTheNextView(t *testing.T) {
	m := holding(map[int]uint64{ownersAt: 3, ownersAt + 1: 4})
	v := of(t, m)
	freeAre(t, v, 94)
	ok(t, store.Drop(v, 0))
	ownerIs(t, v, 0, -1, api.OK)
	freeAre(t, v, 94)
	takes(t, v, 5, 2)
	other := of(t, m)
	ownerIs(t, other, 0, 2, api.OK)
	freeAre(t, other, 94)
	makes(t, m, v)
	next := of(t, m)
	freeAre(t, next, 94)
	ownerIs(t, next, 2, 5, api.OK)
	takes(t, next, 6, 0)
	takes(t, next, 6, 3)
}

// P9.1: blocks that are to be left alone are neither taken nor counted; numbers that are to be left alone are no blocks.
func TestTakeLeavesBlocksAlone(t *testing.T) {
	v := of(t, empty())
	v.Avoid([]int{0, 2, 95}, []int{1, 3})
	freeAre(t, v, 93)
	takes(t, v, 2, 1)
	takes(t, v, 2, 3)
	v.Avoid([]int{4}, nil)
	freeAre(t, v, 93)
	takes(t, v, 2, 0)
	takes(t, v, 2, 2)
	takes(t, v, 2, 5)
	var all []int
	for block := range 96 {
		all = append(all, block)
	}
	v.Avoid(all, nil)
	freeAre(t, v, 0)
	takesNone(t, v, 2, api.ErrSpace)
	v.Avoid(all[:95], nil)
	takes(t, v, 2, 95)
}

// P9.1: who has a block, by the owner's words at their edges, of the memory and of the view.
func TestOwner(t *testing.T) {
	for _, x := range []struct {
		w    uint64
		node int
		e    api.Errno
	}{
		{0, -1, api.OK}, {1, 0, api.OK}, {2, 1, api.OK}, {23, 22, api.OK}, {24, 23, api.OK},
		{25, 0, api.ErrCorrupt}, {256, 0, api.ErrCorrupt}, {257, 0, api.ErrCorrupt}, {1 << 32, 0, api.ErrCorrupt},
		{1<<32 + 1, 0, api.ErrCorrupt}, {1 << 63, 0, api.ErrCorrupt}, {greatest - 1, 0, api.ErrCorrupt}, {greatest, 0, api.ErrCorrupt},
	} {
		for _, block := range []int{0, 1, 50, 95} {
			v := of(t, holding(map[int]uint64{ownersAt + block: x.w}))
			ownerIs(t, v, block, x.node, x.e)
			ownerIs(t, v, (block+1)%96, -1, api.OK)
			v = of(t, owned())
			ok(t, v.Write(ownersAt+block, x.w))
			ownerIs(t, v, block, x.node, x.e)
			ownerIs(t, v, (block+1)%96, 2, api.OK)
		}
	}
	v := of(t, owned())
	for _, block := range outside(96) {
		ownerIs(t, v, block, 0, api.ErrArg)
	}
	notedAre(t, v, nil, nil)
}

// P9.1: blocks with whatever owner are given back, words that tell no file among them; neither taken nor free are those ahead of it.
func TestDrop(t *testing.T) {
	for _, block := range []int{0, 1, 50, 95} {
		for _, w := range []uint64{1, 2, 24, 25, 256, 1 << 32, greatest} {
			v := of(t, holding(map[int]uint64{ownersAt + block: w, blocksAt + 16*block: 7}))
			freeAre(t, v, 95)
			ok(t, store.Drop(v, block))
			ownerIs(t, v, block, -1, api.OK)
			if l := v.Changes(); len(l) != 1 || l[0] != (api.Change{At: ownersAt + block}) {
				t.Fatalf("block %d of %d: changes %v", block, w, l)
			}
			dropFails(t, v, block, api.ErrCorrupt)
			freeAre(t, v, 95)
			notedAre(t, v, nil, nil)
		}
	}
}

// P9.1: a block that is free in the view, be it or be it not in the memory; blocks that there are not.
func TestDropRefused(t *testing.T) {
	for _, m := range []*memory.Memory{empty(), owned()} {
		for _, block := range []int{0, 95} {
			v := of(t, m)
			ok(t, v.Write(ownersAt+block, 0))
			dropFails(t, v, block, api.ErrCorrupt)
		}
		v := of(t, m)
		for _, block := range outside(96) {
			dropFails(t, v, block, api.ErrArg)
		}
	}
	v := of(t, empty())
	for block := range 96 {
		dropFails(t, v, block, api.ErrCorrupt)
	}
	ok(t, v.Write(ownersAt+9, 4), store.Drop(v, 9))
	dropFails(t, v, 9, api.ErrCorrupt)
}

// P9.1: how many are fresh, by owners of the memory and of the view, one beside the other.
func TestFree(t *testing.T) {
	m := holding(map[int]uint64{ownersAt: 1, ownersAt + 1: greatest, ownersAt + 95: 25})
	v := of(t, m)
	freeAre(t, v, 93)
	ok(t, store.Drop(v, 0), v.Write(ownersAt+1, 0), v.Write(ownersAt+2, 0), v.Write(ownersAt+3, 99))
	freeAre(t, v, 92)
	v.Avoid([]int{0, 2, 3, 4, 95, 96, -1}, nil)
	freeAre(t, v, 90)
	ok(t, m.Store(ownersAt, 0), m.Store(ownersAt+1, 0), m.Store(ownersAt+95, 0))
	freeAre(t, v, 91)
	freeAre(t, of(t, owned()), 0)
	freeAre(t, of(t, memory.New(size)), 96)
}

// P9.1: all numbers, from 2 on, of each kind, and then there is none; a card that is fresh is set, and none but it is noted.
func TestNodeOfAllNumbers(t *testing.T) {
	v := of(t, empty())
	var taken []int
	for node := 2; node < 24; node++ {
		numbers(t, v, 1+node%3, node, 1)
		taken = append(taken, node)
		notedAre(t, v, taken, taken)
	}
	for kind := 1; kind <= 3; kind++ {
		numbersNone(t, v, kind, api.ErrSpace)
	}
	for _, kind := range []int{-1, 0, 4} {
		numbersNone(t, v, kind, api.ErrArg)
	}
	ok(t, store.Release(v, 23), store.Release(v, 2))
	numbers(t, v, api.Link, 2, 3)
	numbers(t, v, api.Dir, 23, 3)
	numbersNone(t, v, api.File, api.ErrSpace)
	v.Reset()
	numbers(t, v, api.File, 2, 1)
}

// P9.1: kinds that are none of a file, with numbers left and without.
func TestNodeOfWrongKinds(t *testing.T) {
	for _, m := range []*memory.Memory{empty(), filed()} {
		v := of(t, m)
		for _, kind := range []int{-1, 0, 4, 5, -255, 255, 256, 257, 258, 1<<32 + 1, math.MinInt, math.MinInt + 1, math.MaxInt} {
			numbersNone(t, v, kind, api.ErrArg)
		}
		notedAre(t, v, nil, nil)
	}
	for kind := 1; kind <= 3; kind++ {
		numbers(t, of(t, empty()), kind, 2, 1)
		numbersNone(t, of(t, filed()), kind, api.ErrSpace)
	}
}

// P9.1: the one number that is free, wherever it lies; 0 and 1 never are.
func TestNodeOfTheOnlyNumber(t *testing.T) {
	for _, node := range []int{2, 3, 12, 22, 23} {
		v := of(t, filed(0, 1, node))
		numbers(t, v, api.Dir, node, 1)
		notedAre(t, v, []int{node}, []int{node})
		if n := len(v.Changes()); n != 2 {
			t.Errorf("number %d: %d changes", node, n)
		}
		numbersNone(t, v, api.Dir, api.ErrSpace)
	}
	numbersNone(t, of(t, filed(0, 1)), api.File, api.ErrSpace)
}

// P9.1: the lowest 8 bits alone tell whether a number is free, whatever else stands in the card; all 8 words are the fresh card's then.
func TestNodeAsksForTheLowestBits(t *testing.T) {
	for _, first := range []uint64{0, 256, 0xff00, 1 << 24, 1 << 56, 1 << 63, greatest &^ 255} {
		words := map[int]uint64{cardsAt + 8*2: first}
		for i := 1; i < 8; i++ {
			words[cardsAt+8*2+i] = uint64(40 + i)
		}
		numbers(t, of(t, holding(words)), api.File, 2, 42)
		v := of(t, empty())
		for at, w := range words {
			ok(t, v.Write(at, w))
		}
		numbers(t, v, api.Link, 2, 42)
	}
	for _, first := range []uint64{1, 2, 3, 4, 8, 16, 128, 255, 257, 1<<63 + 1, 1<<63 + 128, greatest} {
		v := of(t, holding(map[int]uint64{cardsAt + 8*2: first}))
		numbers(t, v, api.File, 3, 1)
		notedAre(t, v, []int{3}, []int{3})
	}
}

// P9.1: a Version is one more than the card's second word, and 0 behind the greatest.
func TestVersionsGoOn(t *testing.T) {
	for _, version := range []uint64{0, 1, 2, 1<<32 - 1, 1<<63 - 1, 1 << 63, greatest - 1, greatest} {
		v := of(t, holding(map[int]uint64{cardsAt + 8*2 + 1: version}))
		numbers(t, v, api.File, 2, version+1)
		ok(t, store.Release(v, 2))
		wordsAre(t, v, 2, 0, version+2)
		v = of(t, holding(map[int]uint64{cardsAt + 8*2: 257, cardsAt + 8*2 + 1: version}))
		ok(t, store.Release(v, 2))
		wordsAre(t, v, 2, 0, version+1)
		numbers(t, v, api.Dir, 2, version+2)
	}
	v := of(t, holding(map[int]uint64{cardsAt + 8*2 + 1: greatest}))
	numbers(t, v, api.File, 2, 0)
}

// P9.1: numbers that are to be left alone; blocks that are to be left alone are no numbers of files.
func TestNodeLeavesNumbersAlone(t *testing.T) {
	v := of(t, empty())
	v.Avoid([]int{3, 5}, []int{2, 4, 23})
	numbers(t, v, api.File, 3, 1)
	numbers(t, v, api.File, 5, 1)
	notedAre(t, v, []int{3, 5}, []int{3, 5})
	v.Avoid(nil, []int{6})
	numbers(t, v, api.File, 2, 1)
	numbers(t, v, api.File, 4, 1)
	numbers(t, v, api.File, 7, 1)
	var all []int
	for node := range 24 {
		all = append(all, node)
	}
	v.Avoid(nil, all)
	numbersNone(t, v, api.File, api.ErrSpace)
	v.Avoid(nil, all[:23])
	numbers(t, v, api.File, 23, 1)
}

// P9.1: a card of each kind, of each number at the edges, with whatever bytes and blocks; its blocks stay whose they are.
func TestRelease(t *testing.T) {
	for _, node := range []int{0, 1, 2, 12, 23} {
		for kind := 1; kind <= 3; kind++ {
			c := fresh(kind, 8)
			c.Links, c.Size, c.Direct[0], c.More = 255, 2688, 95, 0
			l, e := cards.Write(c)
			ok(t, e)
			m := owned()
			for i, w := range l {
				ok(t, m.Store(cardsAt+8*node+i, w))
			}
			v := of(t, m)
			ok(t, store.Release(v, node))
			wordsAre(t, v, node, 0, 9)
			notedAre(t, v, []int{node}, []int{node})
			if c, e := v.Card(node); c != none(9) || e != api.OK {
				t.Fatal(c, e)
			}
			if n := len(v.Changes()); n != 4 {
				t.Errorf("%d changes", n)
			}
			releaseFails(t, v, node, api.ErrCorrupt)
		}
	}
}

// releaseFails asks that a number isn't given back, and that no word and nothing that is set becomes another one.
func releaseFails(t *testing.T, v *view.View, node int, want api.Errno) {
	t.Helper()
	before := shows(v)
	if e := store.Release(v, node); e != want {
		t.Fatalf("Release of %d: %d, not %d", node, e, want)
	}
	if want == api.ErrCorrupt && !slices.Contains(before.seen, node) {
		before.seen = append(before.seen, node)
		slices.Sort(before.seen)
	}
	before.still(t, v)
}

// P9.1: cards that are none's, that can't be read, and numbers that there are not; the first two are noted as read.
func TestReleaseRefused(t *testing.T) {
	v := of(t, holding(map[int]uint64{
		cardsAt + 8*2 + 1: 5,
		cardsAt + 8*3:     4,
		cardsAt + 8*4:     257, cardsAt + 8*4 + 7: 1,
		cardsAt + 8*5:  256,
		cardsAt + 8*23: greatest,
	}))
	for _, node := range outside(24) {
		releaseFails(t, v, node, api.ErrArg)
	}
	notedAre(t, v, nil, nil)
	for _, node := range []int{23, 0, 1, 2, 3, 4, 5} {
		releaseFails(t, v, node, api.ErrCorrupt)
	}
	notedAre(t, v, []int{0, 1, 2, 3, 4, 5, 23}, nil)
	v.Reset()
	ok(t, v.Set(9, fresh(api.File, 1)), store.Release(v, 9))
	releaseFails(t, v, 9, api.ErrCorrupt)
	notedAre(t, v, []int{9}, []int{9})
}

// P9.1: a number that the view gave back it may take again at once; the next one may, once the memory has it.
func TestANumberGivenBack(t *testing.T) {
	m := holding(map[int]uint64{cardsAt + 8*2: 258, cardsAt + 8*2 + 1: 6})
	v, other := of(t, m), of(t, m)
	ok(t, store.Release(v, 2))
	numbers(t, other, api.File, 3, 1)
	numbers(t, v, api.File, 2, 8)
	ok(t, store.Release(v, 2))
	makes(t, m, v)
	numbers(t, of(t, m), api.Link, 2, 10)
}

// P9.1, R7, E0: no view: nil, and one that view.New didn't make.
func TestNoView(t *testing.T) {
	for _, v := range []*view.View{nil, {}} {
		for _, n := range append(outside(24), 0, 1, 2, 23, 95, 96) {
			block, e1 := store.Take(v, n)
			owner, e2 := store.Owner(v, n)
			node, e3 := store.Node(v, n)
			if block != 0 || owner != 0 || node != 0 || store.Free(v) != 0 {
				t.Error(n, block, owner, node)
			}
			for i, e := range []api.Errno{e1, e2, e3, store.Drop(v, n), store.Release(v, n)} {
				if e != api.ErrArg {
					t.Errorf("call %d of %d: %d", i, n, e)
				}
			}
		}
	}
}

// P9.1: nothing is kept but the view: the memory is as it was, and no call of it counts.
func TestTheMemoryIsLeftAlone(t *testing.T) {
	m := holding(map[int]uint64{ownersAt: 3, cardsAt + 8*2: 257})
	image, calls := m.Image(), m.Calls()
	v := of(t, m)
	ok(t, store.Drop(v, 0), store.Release(v, 2))
	takes(t, v, 2, 1)
	numbers(t, v, api.File, 2, 2)
	if !slices.Equal(m.Image(), image) || m.Calls() != calls || len(m.Loose()) != 0 {
		t.Error("the memory is another one")
	}
}
