package view_test

import (
	"math"
	"slices"
	"testing"

	"escritoire/api"
	"escritoire/cards"
	"escritoire/memory"
	"escritoire/view"
)

const (
	size     = 2824
	cardsAt  = 8
	ownersAt = 200
	logsAt   = 296
	blocksAt = 1288
)

// open tells from the chapter's numbers whether a change may name a word.
func open(at int) bool {
	return at >= cardsAt && at < logsAt || at >= blocksAt && at < size
}

// filled is a memory whose words all are others, and other than 0; the cards of files 2, 3 and 23 may be.
func filled() *memory.Memory {
	l := make([]uint64, size)
	for i := range l {
		l[i] = uint64(i) + 1<<40
	}
	for _, node := range []int{2, 3, 23} {
		copy(l[cardsAt+8*node:], wordsOf(card(node)))
	}
	return memory.Load(l)
}

// empty is a memory of the plan's size whose words are 0: no card is one's that was made, all blocks are free.
func empty() *memory.Memory { return memory.New(size) }

// card is a card that may be, another one for each n.
func card(n int) api.Card {
	return api.Card{
		Kind: 1 + n%3, Links: n % 256, Size: n % 2689, Version: uint64(n) << 33,
		Direct: [api.Direct]int{n % 96, -1, 0, 95, (n + 7) % 96}, More: n%97 - 1,
	}
}

// none is the card of no file.
func none(version uint64) api.Card {
	return api.Card{Version: version, Direct: [api.Direct]int{-1, -1, -1, -1, -1}, More: -1}
}

// wrongCards is cards that may not be.
func wrongCards() []api.Card {
	with := func(change func(*api.Card)) api.Card {
		c := card(5)
		change(&c)
		return c
	}
	return []api.Card{
		{},
		{Kind: 9},
		{Version: 1},
		with(func(c *api.Card) { c.Kind = 4 }),
		with(func(c *api.Card) { c.Kind = -1 }),
		with(func(c *api.Card) { c.Kind = 0 }),
		with(func(c *api.Card) { c.Links = 256 }),
		with(func(c *api.Card) { c.Links = -1 }),
		with(func(c *api.Card) { c.Size = 2689 }),
		with(func(c *api.Card) { c.Direct[4] = 96 }),
		with(func(c *api.Card) { c.Direct[0] = -2 }),
		with(func(c *api.Card) { c.More = 96 }),
	}
}

// wordsOf is a card's words.
func wordsOf(c api.Card) []uint64 {
	l, e := cards.Write(c)
	if e != api.OK {
		panic("a card of the tests may not be")
	}
	return l
}

// outside is numbers that none of n things has.
func outside(n int) []int {
	return []int{-1, -2, -8, -16, n, n + 1, n + 8, 4096, 1 << 32, 1<<32 + 1, 1 << 60, math.MinInt, math.MinInt + 1, math.MaxInt, math.MaxInt - 1}
}

// made is a view of a memory.
func made(t *testing.T, m *memory.Memory) *view.View {
	t.Helper()
	v := view.New(m)
	if v == nil {
		t.Fatal("no view")
	}
	return v
}

// ok asks that every call answered OK.
func ok(t *testing.T, l ...api.Errno) {
	t.Helper()
	for i, e := range l {
		if e != api.OK {
			t.Fatalf("call %d: error %d", i, e)
		}
	}
}

// changesAre asks that just these words are other ones.
func changesAre(t *testing.T, v *view.View, want ...api.Change) {
	t.Helper()
	if l := v.Changes(); !slices.Equal(l, want) {
		t.Fatalf("changes: %v, not %v", l, want)
	}
}

// notedAre asks that just these files' cards were read or set, and these were set.
func notedAre(t *testing.T, v *view.View, seen, mine []int) {
	t.Helper()
	if s, m := v.Seen(), v.Mine(); !slices.Equal(s, seen) || !slices.Equal(m, mine) {
		t.Fatalf("seen %v, mine %v, not %v, %v", s, m, seen, mine)
	}
}

// readsAs asks that a view reads all words so, and none outside.
func readsAs(t *testing.T, v *view.View, want []uint64) {
	t.Helper()
	for at, w := range want {
		if v.Read(at) != w {
			t.Fatalf("word %d reads %d, not %d", at, v.Read(at), w)
		}
	}
	for _, at := range outside(size) {
		if v.Read(at) != 0 {
			t.Fatalf("word %d reads %d", at, v.Read(at))
		}
	}
}

// P8.1: a view is of a memory with as many words as the plan, whatever they are.
func TestNewAsksForThePlansSize(t *testing.T) {
	for _, m := range []*memory.Memory{nil, {}, memory.New(0), memory.New(8), memory.New(size - 1), memory.New(size + 1), memory.New(4096)} {
		if v := view.New(m); v != nil {
			t.Errorf("a view of %d words", m.Size())
		}
	}
	still := filled()
	still.Stop(0)
	for _, m := range []*memory.Memory{empty(), filled(), still} {
		v := made(t, m)
		readsAs(t, v, m.Image())
		changesAre(t, v)
		notedAre(t, v, nil, nil)
	}
}

// P8.1: of each place, at the edges of all parts and past both ends: what may be written, and that nothing else becomes another word.
func TestWriteAtEachPlace(t *testing.T) {
	m := filled()
	before := m.Image()
	places := outside(size)
	for at := range size {
		places = append(places, at)
	}
	v := made(t, m)
	for _, at := range places {
		e := v.Write(at, 7)
		if open(at) {
			want := slices.Clone(before)
			want[at] = 7
			ok(t, e)
			changesAre(t, v, api.Change{At: at, V: 7})
			if v.Read(at) != 7 {
				t.Fatalf("word %d reads %d", at, v.Read(at))
			}
			if at%97 == 0 {
				readsAs(t, v, want)
			}
			v.Reset()
			continue
		}
		if e != api.ErrArg {
			t.Errorf("Write at %d: %d", at, e)
		}
		changesAre(t, v)
	}
	readsAs(t, v, before)
}

// P8.1: the chapter's example.
func TestExample(t *testing.T) {
	v := made(t, empty())
	ok(t, v.Write(1288, 7))
	if v.Read(1288) != 7 {
		t.Error(v.Read(1288))
	}
	changesAre(t, v, api.Change{At: 1288, V: 7})
}

// P8.1: a word is what was written last.
func TestWritesAreTheLastOnes(t *testing.T) {
	v := made(t, filled())
	for _, w := range []uint64{0, 1, math.MaxUint64, 1 << 63, 5} {
		ok(t, v.Write(2823, w), v.Write(8, w+1))
		if v.Read(2823) != w || v.Read(8) != w+1 {
			t.Error(v.Read(2823), v.Read(8), w)
		}
	}
	changesAre(t, v, api.Change{At: 8, V: 6}, api.Change{At: 2823, V: 5})
}

// P8.1: words that the view hasn't written are the memory's, as they are then; its own stay, be they written as the memory's.
func TestTheMemorysWordsAreReadAsTheyAreThen(t *testing.T) {
	m := filled()
	v := made(t, m)
	ok(t, v.Write(100, 5), v.Write(101, m.Read(101)))
	was := m.Read(101)
	ok(t, m.Store(100, 8), m.Store(101, 8), m.Store(102, 8), m.Store(3, 8), m.Store(300, 8))
	for at, w := range map[int]uint64{100: 5, 101: was, 102: 8, 3: 8, 300: 8} {
		if v.Read(at) != w {
			t.Errorf("word %d reads %d, not %d", at, v.Read(at), w)
		}
	}
	changesAre(t, v, api.Change{At: 100, V: 5}, api.Change{At: 101, V: was})
	m.Crash(nil)
	for at, w := range map[int]uint64{100: 5, 101: was, 102: 102 + 1<<40, 3: 3 + 1<<40} {
		if v.Read(at) != w {
			t.Errorf("behind a crash word %d reads %d, not %d", at, v.Read(at), w)
		}
	}
	changesAre(t, v, api.Change{At: 100, V: 5})
}

// P8.1: what is as the memory's is no change, be it that it was another one once, or that the memory became so.
func TestChangesAreOtherWordsAlone(t *testing.T) {
	m := filled()
	v := made(t, m)
	ok(t, v.Write(50, 1), v.Write(50, m.Read(50)), v.Write(51, m.Read(51)), v.Write(2000, 3), v.Write(1999, 4), v.Write(200, 0))
	changesAre(t, v, api.Change{At: 200, V: 0}, api.Change{At: 1999, V: 4}, api.Change{At: 2000, V: 3})
	ok(t, m.Store(1999, 4), m.Store(50, 9))
	changesAre(t, v, api.Change{At: 50, V: 50 + 1<<40}, api.Change{At: 200, V: 0}, api.Change{At: 2000, V: 3})
}

// P8.1: changes come in order of places, however they were written; there may be as many as words.
func TestChangesAreInOrder(t *testing.T) {
	v := made(t, empty())
	var want []api.Change
	for at := range size {
		if open(at) {
			want = append(want, api.Change{At: at, V: uint64(at)})
		}
	}
	for i := range want {
		x := want[(i+1)*769%len(want)]
		ok(t, v.Write(x.At, x.V))
	}
	changesAre(t, v, want...)
	for _, x := range want {
		ok(t, v.Write(x.At, 0))
	}
	changesAre(t, v)
}

// P8.1: cards at the edges of the numbers, each at its own words.
func TestSetAndCard(t *testing.T) {
	for _, node := range []int{0, 1, 2, 3, 12, 22, 23} {
		m := filled()
		v := made(t, m)
		want := m.Image()
		for n := range 300 {
			c := card(n * 37)
			ok(t, v.Set(node, c))
			if d, e := v.Card(node); d != c || e != api.OK {
				t.Fatalf("card %d: %v %d, not %v", node, d, e, c)
			}
			copy(want[cardsAt+8*node:], wordsOf(c))
		}
		readsAs(t, v, want)
		ok(t, v.Set(node, none(math.MaxUint64)))
		if d, e := v.Card(node); d != none(math.MaxUint64) || e != api.OK {
			t.Errorf("card %d: %v %d", node, d, e)
		}
		notedAre(t, v, []int{node}, []int{node})
	}
}

// P8.1: a card of the memory's, one of words that the view wrote, and of both.
func TestCardOfWordsAsTheyAre(t *testing.T) {
	m := filled()
	v := made(t, m)
	if c, e := v.Card(23); c != card(23) || e != api.OK {
		t.Error(c, e)
	}
	for i, w := range wordsOf(card(40)) {
		ok(t, v.Write(cardsAt+8*4+i, w), m.Store(cardsAt+8*2+i, w))
	}
	for _, node := range []int{2, 4} {
		if c, e := v.Card(node); c != card(40) || e != api.OK {
			t.Error(node, c, e)
		}
	}
	ok(t, v.Write(cardsAt+8*3+1, 77))
	c := card(3)
	c.Version = 77
	if d, e := v.Card(3); d != c || e != api.OK {
		t.Error(d, e)
	}
	if d, e := made(t, empty()).Card(9); d != none(0) || e != api.OK {
		t.Error(d, e)
	}
	notedAre(t, v, []int{2, 3, 4, 23}, nil)
}

// P8.1: words that are no card's: in the memory, in the view; it is noted as read nonetheless.
func TestCardThatIsCorrupt(t *testing.T) {
	m := filled()
	v := made(t, m)
	ok(t, v.Write(cardsAt+8*3+7, 1), v.Write(cardsAt+8*2, 4), m.Store(cardsAt+8*23+4, 1))
	for _, node := range []int{23, 3, 0, 2} {
		if c, e := v.Card(node); c != (api.Card{}) || e != api.ErrCorrupt {
			t.Errorf("card %d: %v %d", node, c, e)
		}
	}
	notedAre(t, v, []int{0, 2, 3, 23}, nil)
	ok(t, v.Set(3, card(8)))
	if c, e := v.Card(3); c != card(8) || e != api.OK {
		t.Error(c, e)
	}
	notedAre(t, v, []int{0, 2, 3, 23}, []int{3})
}

// P8.1, R3: numbers that no file has, cards that may not be, and both: nothing is written or noted.
func TestSetAndCardRefused(t *testing.T) {
	v := made(t, filled())
	for _, node := range outside(24) {
		if c, e := v.Card(node); c != (api.Card{}) || e != api.ErrArg {
			t.Errorf("Card %d: %v %d", node, c, e)
		}
		for _, c := range append(wrongCards(), card(1)) {
			if e := v.Set(node, c); e != api.ErrArg {
				t.Errorf("Set %d: %d", node, e)
			}
		}
	}
	for _, node := range []int{0, 1, 2, 23} {
		for _, c := range wrongCards() {
			if e := v.Set(node, c); e != api.ErrArg {
				t.Errorf("Set %d of %v: %d", node, c, e)
			}
		}
	}
	changesAre(t, v)
	notedAre(t, v, nil, nil)
	ok(t, v.Set(2, card(9)))
	for _, c := range wrongCards() {
		v.Set(2, c)
	}
	if c, e := v.Card(2); c != card(9) || e != api.OK {
		t.Error(c, e)
	}
}

// P8.1: which files were read, which were set, in order, each once; words that are read or written, and blocks, note nothing.
func TestSeenAndMine(t *testing.T) {
	v := made(t, empty())
	for at := range size {
		v.Read(at)
		v.Write(at, 0)
	}
	for block := range 96 {
		v.Block(block)
		v.SetBlock(block, nil)
		v.Fresh(block)
	}
	v.Avoid([]int{1, 2}, []int{1, 2})
	v.AvoidsNode(1)
	notedAre(t, v, nil, nil)
	for _, node := range []int{9, 23, 4, 9, 0} {
		v.Card(node)
	}
	notedAre(t, v, []int{0, 4, 9, 23}, nil)
	for _, node := range []int{22, 4, 22, 10, 1} {
		ok(t, v.Set(node, card(node)))
	}
	notedAre(t, v, []int{0, 1, 4, 9, 10, 22, 23}, []int{1, 4, 10, 22})
	for node := range 24 {
		v.Card(23 - node)
	}
	all := []int{0, 1, 2, 3, 4, 5, 6, 7, 8, 9, 10, 11, 12, 13, 14, 15, 16, 17, 18, 19, 20, 21, 22, 23}
	notedAre(t, v, all, []int{1, 4, 10, 22})
}

// P8.1: a card that is set as it was is noted, and changes nothing.
func TestSetOfTheSameCard(t *testing.T) {
	v := made(t, filled())
	ok(t, v.Set(23, card(23)))
	changesAre(t, v)
	notedAre(t, v, []int{23}, []int{23})
}

// upTo is the numbers from first on, n of them.
func upTo(first uint64, n int) []uint64 {
	l := make([]uint64, n)
	for i := range l {
		l[i] = first + uint64(i)
	}
	return l
}

// P8.1: each block's words lie where the plan has them; 0s stand behind the words that are handed in, whatever stood there.
func TestBlocks(t *testing.T) {
	for _, block := range []int{0, 1, 50, 94, 95} {
		at := blocksAt + 16*block
		m := filled()
		v := made(t, m)
		if l, e := v.Block(block); !slices.Equal(l, upTo(uint64(at)+1<<40, 16)) || e != api.OK {
			t.Fatal(l, e)
		}
		for _, n := range []int{16, 15, 1, 0, 8, 16} {
			ok(t, v.SetBlock(block, upTo(9, n)))
			want := append(upTo(9, n), make([]uint64, 16-n)...)
			if l, e := v.Block(block); !slices.Equal(l, want) || e != api.OK {
				t.Fatalf("block %d of %d words: %v %d", block, n, l, e)
			}
			image := m.Image()
			copy(image[at:], want)
			readsAs(t, v, image)
		}
		ok(t, v.Write(at+15, 3), v.Write(at, 4), m.Store(at, 5))
		want := upTo(9, 16)
		want[0], want[15] = 4, 3
		if l, e := v.Block(block); !slices.Equal(l, want) || e != api.OK {
			t.Fatal(l, e)
		}
		notedAre(t, v, nil, nil)
	}
}

// P8.1: a block of words that are the view's own in part, else the memory's as they are then.
func TestBlockOfBoth(t *testing.T) {
	m := empty()
	v := made(t, m)
	ok(t, v.Write(1290, 6), m.Store(1289, 5), m.Store(1290, 7))
	want := make([]uint64, 16)
	want[1], want[2] = 5, 6
	if l, e := v.Block(0); !slices.Equal(l, want) || e != api.OK {
		t.Error(l, e)
	}
	ok(t, v.SetBlock(0, nil), m.Store(1303, 9))
	if l, e := v.Block(0); !slices.Equal(l, make([]uint64, 16)) || e != api.OK {
		t.Error(l, e)
	}
	changesAre(t, v, api.Change{At: 1289}, api.Change{At: 1290}, api.Change{At: 1303})
}

// P8.1, R2, R3: no such block; too many words; both: nothing is written.
func TestBlocksRefused(t *testing.T) {
	v := made(t, filled())
	for _, block := range outside(96) {
		if l, e := v.Block(block); len(l) != 0 || e != api.ErrArg {
			t.Errorf("Block %d: %v %d", block, l, e)
		}
		for _, n := range []int{0, 1, 16, 17} {
			if e := v.SetBlock(block, make([]uint64, n)); e != api.ErrArg {
				t.Errorf("SetBlock %d of %d: %d", block, n, e)
			}
		}
	}
	for _, block := range []int{0, 95} {
		for _, n := range []int{17, 18, 32, 4096} {
			if e := v.SetBlock(block, make([]uint64, n)); e != api.ErrArg {
				t.Errorf("SetBlock %d of %d: %d", block, n, e)
			}
		}
	}
	changesAre(t, v)
}

// R4: lists that are handed in are neither changed nor kept; answered ones are new memory.
func TestListsAreNotShared(t *testing.T) {
	v := made(t, empty())
	words := append(make([]uint64, 0, 40), 1, 2, 3)
	ok(t, v.SetBlock(4, words), v.Set(5, card(5)))
	blocks, nodes := []int{9, 8, 9}, []int{7, 6}
	v.Avoid(blocks, nodes)
	if !slices.Equal(words[:16], []uint64{1, 2, 3, 0, 0, 0, 0, 0, 0, 0, 0, 0, 0, 0, 0, 0}) || !slices.Equal(blocks, []int{9, 8, 9}) || !slices.Equal(nodes, []int{7, 6}) {
		t.Fatal("a list that was handed in is another one now", words[:16], blocks, nodes)
	}
	for range 2 {
		clear(words)
		clear(blocks)
		clear(nodes)
		l, _ := v.Block(4)
		if l[0] != 1 || l[2] != 3 || !v.Avoids(9) || v.Avoids(0) || !v.AvoidsNode(6) || v.AvoidsNode(0) {
			t.Fatal("a list that was handed in is kept")
		}
		x, s, m := v.Changes(), v.Seen(), v.Mine()
		if len(x) == 0 || !slices.Equal(s, []int{5}) || !slices.Equal(m, []int{5}) {
			t.Fatal("a list that was answered is kept", x, s, m)
		}
		clear(l)
		clear(x)
		s[0], m[0] = 1, 2
	}
}

// P8.1: those that are named, instead of those that were named ahead; blocks are no numbers of files.
func TestAvoid(t *testing.T) {
	v := made(t, empty())
	for _, x := range [][2][]int{{{0, 95, 7}, {0, 23, 8}}, {{1}, nil}, {nil, {1}}, {{}, {}}, {{5, 5}, {5, 4, 5}}, {nil, nil}} {
		v.Avoid(x[0], x[1])
		for n := -1; n < 100; n++ {
			if v.Avoids(n) != slices.Contains(x[0], n) || v.AvoidsNode(n) != slices.Contains(x[1], n) {
				t.Errorf("%v: %d: %v %v", x, n, v.Avoids(n), v.AvoidsNode(n))
			}
			if v.Fresh(n) != (n >= 0 && n < 96 && !slices.Contains(x[0], n)) {
				t.Errorf("%v: %d: fresh %v", x, n, v.Fresh(n))
			}
		}
	}
	changesAre(t, v)
}

// P8.1, E0: numbers that there are not may be named, and asked for.
func TestAvoidOfWrongNumbers(t *testing.T) {
	v := made(t, empty())
	v.Avoid(outside(96), outside(24))
	for n := range 24 {
		if v.Avoids(n) || v.AvoidsNode(n) || !v.Fresh(n) {
			t.Error(n)
		}
	}
	for _, n := range outside(96) {
		if v.Fresh(n) {
			t.Error(n)
		}
	}
	v.Avoid(nil, nil)
	for _, n := range outside(96) {
		if v.Avoids(n) || v.AvoidsNode(n) || v.Fresh(n) {
			t.Error(n)
		}
	}
}

// P8.1: free in the memory, free in the view, not to be left alone: all of them, for each block at the edges.
func TestFresh(t *testing.T) {
	for _, block := range []int{0, 1, 50, 94, 95} {
		for n := range 16 {
			inMemory, inView, avoided, written := n&1 == 0, n&2 == 0, n&4 != 0, n&8 != 0
			m := empty()
			v := made(t, m)
			for other := range 96 {
				if other != block {
					ok(t, m.Store(ownersAt+other, 3))
				}
			}
			if written {
				w := uint64(4)
				if inView {
					w = 0
				}
				ok(t, v.Write(ownersAt+block, w))
			}
			if !inMemory {
				ok(t, m.Store(ownersAt+block, math.MaxUint64))
			}
			if avoided {
				v.Avoid([]int{block}, nil)
			} else {
				v.Avoid([]int{(block + 1) % 96}, []int{block})
			}
			want := inMemory && (inView || !written) && !avoided
			if v.Fresh(block) != want {
				t.Errorf("block %d, memory %v, view %v, avoided %v, written %v: %v", block, inMemory, inView, avoided, written, v.Fresh(block))
			}
			if v.Fresh((block + 2) % 96) {
				t.Error("a block with an owner is fresh")
			}
		}
	}
}

// P8.1: all is forgotten but what is to be left alone; the view goes on as a new one.
func TestReset(t *testing.T) {
	m := filled()
	v := made(t, m)
	before := m.Image()
	for range 3 {
		v.Avoid([]int{3}, []int{4})
		ok(t, v.Write(2823, 1), v.Set(5, card(5)), v.SetBlock(7, upTo(1, 16)), v.Write(ownersAt+9, 0), m.Store(ownersAt+9, 0), m.Store(ownersAt+3, 0))
		v.Card(2)
		before[ownersAt+9], before[ownersAt+3] = 0, 0
		v.Reset()
		readsAs(t, v, before)
		changesAre(t, v)
		notedAre(t, v, nil, nil)
		if !v.Avoids(3) || !v.AvoidsNode(4) || v.Fresh(3) || !v.Fresh(9) {
			t.Error("what is to be left alone is forgotten")
		}
	}
	v.Avoid(nil, nil)
	if v.Avoids(3) || v.AvoidsNode(4) || !v.Fresh(3) {
		t.Error("Avoid behind Reset")
	}
}

// P8.1: two views of one memory don't see each other's words, notes, or what the other is to leave alone.
func TestTwoViews(t *testing.T) {
	m := filled()
	a, b := made(t, m), made(t, m)
	ok(t, a.Write(1288, 1), a.Set(3, card(9)))
	a.Avoid([]int{1}, []int{1})
	readsAs(t, b, m.Image())
	changesAre(t, b)
	notedAre(t, b, nil, nil)
	if b.Avoids(1) || b.AvoidsNode(1) {
		t.Error("b leaves alone what a is to")
	}
	ok(t, b.Write(1288, 2))
	b.Reset()
	if a.Read(1288) != 1 {
		t.Error(a.Read(1288))
	}
	notedAre(t, a, []int{3}, []int{3})
}

// P8.1, R7: of nil; and of one that New didn't make, which has no memory.
func TestNil(t *testing.T) {
	for _, v := range []*view.View{nil, {}} {
		v.Avoid([]int{1}, []int{1})
		v.Reset()
		c, e1 := v.Card(2)
		l, e2 := v.Block(1)
		if c != (api.Card{}) || e1 != api.ErrArg || len(l) != 0 || e2 != api.ErrArg {
			t.Error(c, e1, l, e2)
		}
		for _, at := range []int{0, 8, 1288, -1, math.MaxInt} {
			if v.Read(at) != 0 || v.Write(at, 1) != api.ErrArg || v.Read(at) != 0 {
				t.Error(at)
			}
		}
		for _, n := range []int{1, -1, 96, math.MinInt} {
			if v.Set(n, card(1)) != api.ErrArg || v.SetBlock(n, nil) != api.ErrArg || v.Avoids(n) || v.AvoidsNode(n) || v.Fresh(n) {
				t.Error(n)
			}
		}
		if len(v.Changes()) != 0 || len(v.Seen()) != 0 || len(v.Mine()) != 0 {
			t.Error(v.Changes(), v.Seen(), v.Mine())
		}
	}
}
