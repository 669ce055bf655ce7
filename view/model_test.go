package view_test

import (
	"math/rand"
	"slices"
	"testing"

	"escritoire/api"
	"escritoire/cards"
	"escritoire/memory"
	"escritoire/view"
)

// plain is a view as the chapter tells it, by whole images.
type plain struct {
	words              [size]uint64
	written            [size]bool
	seen, mine         [24]bool
	avoid, avoidsNodes []int
}

func (p *plain) write(at int, l ...uint64) {
	for i, w := range l {
		p.words[at+i], p.written[at+i] = w, true
	}
}

// image is all words as the view reads them, over these of the memory.
func (p *plain) image(memory []uint64) []uint64 {
	l := slices.Clone(memory)
	for at, written := range p.written {
		if written {
			l[at] = p.words[at]
		}
	}
	return l
}

func (p *plain) reset() {
	*p = plain{avoid: p.avoid, avoidsNodes: p.avoidsNodes}
}

// trues is the places that are true, in order.
func trues(l [24]bool) []int {
	var at []int
	for i, is := range l {
		if is {
			at = append(at, i)
		}
	}
	return at
}

// differ is the words of b that are other ones than a's.
func differ(a, b []uint64) []api.Change {
	var l []api.Change
	for at := range a {
		if a[at] != b[at] {
			l = append(l, api.Change{At: at, V: b[at]})
		}
	}
	return l
}

// row is a view and its model in a random row of calls.
type row struct {
	t *testing.T
	r *rand.Rand
	m *memory.Memory
	v *view.View
	p *plain
}

// near is a number of n things, or one beside them.
func (x *row) near(n int) int { return x.r.Intn(n+4) - 2 }

// word is a word of which few are, so that words meet.
func (x *row) word() uint64 { return uint64(x.r.Intn(3)) }

// change makes a random call that changes something, and asks that it answers as the chapter says.
func (x *row) change() {
	switch x.r.Intn(12) {
	case 0, 1, 2:
		at, w := x.near(size), x.word()
		if x.answers(x.v.Write(at, w), open(at)) {
			x.p.write(at, w)
		}
	case 3, 4:
		node, c := x.near(24), card(x.r.Intn(40))
		if x.r.Intn(3) == 0 {
			c.Kind = x.r.Intn(5)
		}
		if x.answers(x.v.Set(node, c), node >= 0 && node < 24 && c.Kind > 0 && c.Kind < 4) {
			x.p.write(cardsAt+8*node, wordsOf(c)...)
			x.p.seen[node], x.p.mine[node] = true, true
		}
	case 5, 6:
		x.setBlock()
	case 7:
		x.p.avoid, x.p.avoidsNodes = x.numbers(96), x.numbers(24)
		x.v.Avoid(x.p.avoid, x.p.avoidsNodes)
	case 8:
		if x.r.Intn(8) == 0 {
			x.p.reset()
			x.v.Reset()
		}
	case 9:
		ownerAt := ownersAt + x.r.Intn(96)
		ok(x.t, x.m.Store(ownerAt, x.word()), x.m.Store(x.r.Intn(size), x.word()))
	case 10:
		at := x.r.Intn(size)
		ok(x.t, x.m.Flush(at), x.m.Fence())
		x.m.Evict(at)
	case 11:
		if x.r.Intn(8) == 0 {
			x.m.Crash([]bool{true, false})
		}
	}
}

func (x *row) setBlock() {
	block, n := x.near(96), x.r.Intn(19)
	l := make([]uint64, n)
	for i := range l {
		l[i] = x.word()
	}
	if x.answers(x.v.SetBlock(block, l), block >= 0 && block < 96 && n <= 16) {
		x.p.write(blocksAt+16*block, append(l, make([]uint64, 16-n)...)...)
	}
}

// answers asks that an error is OK just where it should be, else ErrArg.
func (x *row) answers(e api.Errno, should bool) bool {
	x.t.Helper()
	if should && e != api.OK || !should && e != api.ErrArg {
		x.t.Fatal("an error", e, should)
	}
	return should
}

func (x *row) numbers(n int) []int {
	l := make([]int, x.r.Intn(5))
	for i := range l {
		l[i] = x.r.Intn(n)
	}
	return l
}

// ask asks a random thing, and all that is noted and changed; none of it changes the memory.
func (x *row) ask() {
	before, calls := x.m.Image(), x.m.Calls()
	image := x.p.image(before)
	x.askCard(image)
	x.askBlock(before, image)
	at := x.near(size)
	if w := x.v.Read(at); at >= 0 && at < size && w != image[at] || (at < 0 || at >= size) && w != 0 {
		x.t.Fatal("a word", at, w)
	}
	if l, want := x.v.Changes(), differ(before, image); !slices.Equal(l, want) {
		x.t.Fatal("changes", l, want)
	}
	notedAre(x.t, x.v, trues(x.p.seen), trues(x.p.mine))
	if !slices.Equal(x.m.Image(), before) || x.m.Calls() != calls {
		x.t.Fatal("the memory was changed")
	}
}

func (x *row) askCard(image []uint64) {
	node := x.near(24)
	want, wantE := api.Card{}, api.ErrArg
	if node >= 0 && node < 24 {
		want, wantE = cards.Read(image[cardsAt+8*node : cardsAt+8*node+8])
		x.p.seen[node] = true
	}
	if c, e := x.v.Card(node); c != want || e != wantE {
		x.t.Fatal("a card", node, c, e, want, wantE)
	}
	if x.v.AvoidsNode(node) != slices.Contains(x.p.avoidsNodes, node) {
		x.t.Fatal("a number that is to be left alone", node)
	}
}

func (x *row) askBlock(before, image []uint64) {
	block := x.near(96)
	there := block >= 0 && block < 96
	l, e := x.v.Block(block)
	if x.answers(e, there) && !slices.Equal(l, image[blocksAt+16*block:blocksAt+16*block+16]) {
		x.t.Fatal("a block", block, l)
	}
	free := there && before[ownersAt+block] == 0 && image[ownersAt+block] == 0
	if x.v.Fresh(block) != (free && !slices.Contains(x.p.avoid, block)) || x.v.Avoids(block) != slices.Contains(x.p.avoid, block) {
		x.t.Fatal("a block that is fresh", block)
	}
}

// makes asks that the changes, made in the memory, make it read as the view does, and leave no change.
func (x *row) makes() {
	image := x.p.image(x.m.Image())
	for _, c := range x.v.Changes() {
		ok(x.t, x.m.Store(c.At, c.V))
	}
	if !slices.Equal(x.m.Image(), image) {
		x.t.Fatal("the memory reads otherwise than the view did")
	}
	readsAs(x.t, x.v, image)
	changesAre(x.t, x.v)
}

// P8.1, P8.2: random rows of calls, held against a plain model; the memory changes beside them.
func TestRandomRows(t *testing.T) {
	for seed := range int64(30) {
		m := empty()
		if seed%3 == 0 {
			m = filled()
		}
		x := &row{t: t, r: rand.New(rand.NewSource(seed)), m: m, v: made(t, m), p: &plain{}}
		for i := range 400 {
			x.change()
			x.ask()
			if i%100 == 99 {
				x.makes()
			}
		}
	}
}

// P8.2: no call changes the memory, its loose words, how many calls it counts, or that it stands still.
func TestTheMemoryIsLeftAlone(t *testing.T) {
	m := filled()
	ok(t, m.Store(9, 4), m.Flush(9), m.Store(10, 5), m.Store(1300, 6))
	m.Stop(1)
	image, loose, calls := m.Image(), m.Loose(), m.Calls()
	v := made(t, m)
	for at := -1; at <= size; at++ {
		v.Write(at, 9)
		v.Read(at)
	}
	for n := -1; n <= 96; n++ {
		v.Set(n, card(1))
		v.Card(n)
		v.SetBlock(n, upTo(1, 16))
		v.Block(n)
		v.Fresh(n)
	}
	v.Avoid([]int{1}, []int{2})
	if len(v.Changes()) == 0 || len(v.Seen()) != 24 || len(v.Mine()) != 24 {
		t.Fatal("the calls did nothing")
	}
	v.Reset()
	if !slices.Equal(m.Image(), image) || !slices.Equal(m.Loose(), loose) || m.Calls() != calls {
		t.Fatal("the memory is another one")
	}
	if m.Fence() != api.OK || m.Fence() != api.ErrCrash {
		t.Fatal("it stands still at another call")
	}
	m.Crash(nil)
	if m.Read(9) != 4 || m.Read(10) != 10+1<<40 || m.Read(1300) != 1300+1<<40 {
		t.Fatal("other words were on the way")
	}
}

// P8.2: changes of cards, owners and blocks, made in a memory, make it read as the view does.
func TestChangesMakeTheMemoryReadAsTheView(t *testing.T) {
	m := filled()
	v := made(t, m)
	ok(t, v.Set(3, card(9)), v.Set(23, none(8)), v.SetBlock(95, upTo(1, 3)), v.SetBlock(0, nil), v.Write(ownersAt, 0), v.Write(ownersAt+95, 24), v.Write(2823, 0))
	var want []uint64
	for at := range size {
		want = append(want, v.Read(at))
	}
	for _, c := range v.Changes() {
		ok(t, m.Store(c.At, c.V))
	}
	if !slices.Equal(m.Image(), want) {
		t.Error("other words")
	}
	changesAre(t, v)
}
