package store_test

import (
	"math/rand"
	"slices"
	"testing"

	"escritoire/api"
	"escritoire/cards"
	"escritoire/memory"
	"escritoire/store"
	"escritoire/view"
)

// plain is a view as the chapters tell it, by whole images.
type plain struct {
	words              [size]uint64
	written            [size]bool
	seen, mine         [24]bool
	avoid, avoidsNodes []int
}

func (p *plain) write(at int, l ...uint64) {
	for i, w := range l {
		p.words[at+i], p.written[at+i] = w, true
	}
}

// image is all words as the view reads them, over these of the memory.
func (p *plain) image(memory []uint64) []uint64 {
	l := slices.Clone(memory)
	for at, written := range p.written {
		if written {
			l[at] = p.words[at]
		}
	}
	return l
}

// set makes the card of a number a fresh one's, or of no file's, whose first word is this.
func (p *plain) set(node int, first, version uint64) {
	p.write(cardsAt+8*node, first, version, 0, 0, 0, 0, 0, 0)
	p.seen[node], p.mine[node] = true, true
}

// fresh answers the blocks that are fresh, in order.
func (p *plain) fresh(memory, image []uint64) []int {
	var l []int
	for block := range 96 {
		if memory[ownersAt+block] == 0 && image[ownersAt+block] == 0 && !slices.Contains(p.avoid, block) {
			l = append(l, block)
		}
	}
	return l
}

func (p *plain) take(memory []uint64, node int) (int, api.Errno) {
	if node < 0 || node > 23 {
		return 0, api.ErrArg
	}
	l := p.fresh(memory, p.image(memory))
	if len(l) == 0 {
		return 0, api.ErrSpace
	}
	p.write(ownersAt+l[0], uint64(node+1))
	p.write(blocksAt+16*l[0], make([]uint64, 16)...)
	return l[0], api.OK
}

func (p *plain) drop(image []uint64, block int) api.Errno {
	switch {
	case block < 0 || block > 95:
		return api.ErrArg
	case image[ownersAt+block] == 0:
		return api.ErrCorrupt
	}
	p.write(ownersAt+block, 0)
	return api.OK
}

func (p *plain) owner(image []uint64, block int) (int, api.Errno) {
	switch {
	case block < 0 || block > 95:
		return 0, api.ErrArg
	case image[ownersAt+block] > 24:
		return 0, api.ErrCorrupt
	}
	return int(image[ownersAt+block]) - 1, api.OK
}

func (p *plain) node(image []uint64, kind int) (int, api.Errno) {
	if kind < 1 || kind > 3 {
		return 0, api.ErrArg
	}
	for node := 2; node < 24; node++ {
		if first := image[cardsAt+8*node]; first%256 == 0 && !slices.Contains(p.avoidsNodes, node) {
			p.set(node, uint64(kind+256), image[cardsAt+8*node+1]+1)
			return node, api.OK
		}
	}
	return 0, api.ErrSpace
}

func (p *plain) release(image []uint64, node int) api.Errno {
	if node < 0 || node > 23 {
		return api.ErrArg
	}
	p.seen[node] = true
	c, e := cards.Read(image[cardsAt+8*node : cardsAt+8*node+8])
	if e != api.OK || c.Kind == 0 {
		return api.ErrCorrupt
	}
	p.set(node, 0, c.Version+1)
	return api.OK
}

// row is a view and its model in a random row of calls.
type row struct {
	t *testing.T
	r *rand.Rand
	m *memory.Memory
	v *view.View
	p *plain
}

// near is a number of n things, or one beside them.
func (x *row) near(n int) int { return x.r.Intn(n+4) - 2 }

// call makes a random call of the package, and asks that it answers as the model does.
func (x *row) call() {
	before := x.m.Image()
	image := x.p.image(before)
	kind, n := x.r.Intn(9), x.near(24)
	var got, want int
	var e, wantE api.Errno
	switch kind {
	case 0, 1, 2:
		got, e = store.Take(x.v, n)
		want, wantE = x.p.take(before, n)
	case 3:
		n = x.near(96)
		e, wantE = store.Drop(x.v, n), x.p.drop(image, n)
	case 4:
		n = x.near(96)
		got, e = store.Owner(x.v, n)
		want, wantE = x.p.owner(image, n)
	case 5:
		got, want = store.Free(x.v), len(x.p.fresh(before, image))
	case 6, 7:
		n = x.r.Intn(6) - 1
		got, e = store.Node(x.v, n)
		want, wantE = x.p.node(image, n)
	case 8:
		e, wantE = store.Release(x.v, n), x.p.release(image, n)
	}
	if got != want || e != wantE {
		x.t.Fatalf("call %d of %d: %d %d, not %d %d", kind, n, got, e, want, wantE)
	}
	if !slices.Equal(x.m.Image(), before) {
		x.t.Fatal("the memory is another one")
	}
}

// beside makes something happen beside the calls: in the view, or in its memory.
func (x *row) beside() {
	at := cardsAt + x.r.Intn(288)
	w := uint64(x.r.Intn(28))
	switch x.r.Intn(12) {
	case 0:
		x.p.avoid, x.p.avoidsNodes = x.numbers(96), x.numbers(24)
		x.v.Avoid(x.p.avoid, x.p.avoidsNodes)
	case 1:
		x.p.write(at, w)
		ok(x.t, x.v.Write(at, w))
	case 2:
		ok(x.t, x.m.Store(at, w))
	case 3:
		block := x.r.Intn(96)
		x.p.write(blocksAt+16*block+int(w)%16, w)
		ok(x.t, x.v.Write(blocksAt+16*block+int(w)%16, w), x.m.Store(blocksAt+16*block+int(w)%15, w))
	case 4:
		if x.r.Intn(12) == 0 {
			makes(x.t, x.m, x.v)
		}
	case 5:
		if x.r.Intn(12) == 0 {
			x.v.Reset()
			*x.p = plain{avoid: x.p.avoid, avoidsNodes: x.p.avoidsNodes}
		}
	}
}

func (x *row) numbers(n int) []int {
	l := make([]int, x.r.Intn(5))
	for i := range l {
		l[i] = x.r.Intn(n)
	}
	return l
}

// shows asks that the view reads as the model, and has noted what it has.
func (x *row) shows() {
	now := shows(x.v)
	if !slices.Equal(now.words, x.p.image(x.m.Image())) {
		x.t.Fatal("words are other ones than the model's")
	}
	notedAre(x.t, x.v, trues(x.p.seen), trues(x.p.mine))
}

// trues is the places that are true, in order.
func trues(l [24]bool) []int {
	var at []int
	for i, is := range l {
		if is {
			at = append(at, i)
		}
	}
	return at
}

// P9.1: random rows of calls, held against a plain model; the view and its memory change beside them.
func TestRandomRows(t *testing.T) {
	for seed := range int64(24) {
		r := rand.New(rand.NewSource(seed))
		m := empty()
		if seed%2 == 1 {
			for range r.Intn(150) {
				ok(t, m.Store(ownersAt+r.Intn(96), uint64(r.Intn(30))))
			}
		}
		x := &row{t: t, r: r, m: m, v: of(t, m), p: &plain{}}
		for range 300 {
			x.call()
			x.shows()
			x.beside()
		}
	}
}

// taker is one of two views of a memory, and all that it ever took.
type taker struct {
	v             *view.View
	blocks, nodes []int
}

// takeBlock takes a block, if there is one.
func (k *taker) takeBlock(t *testing.T) {
	t.Helper()
	block, e := store.Take(k.v, 5)
	if e == api.ErrSpace {
		return
	}
	ok(t, e)
	k.blocks = append(k.blocks, block)
}

// takeNode takes a number, if there is one.
func (k *taker) takeNode(t *testing.T) {
	t.Helper()
	node, e := store.Node(k.v, api.File)
	if e == api.ErrSpace {
		return
	}
	ok(t, e)
	k.nodes = append(k.nodes, node)
}

// turn takes something, or gives back what it took last.
func (k *taker) turn(t *testing.T, r *rand.Rand) {
	t.Helper()
	switch r.Intn(7) {
	case 0, 1, 2:
		k.takeBlock(t)
	case 3, 4:
		k.takeNode(t)
	case 5:
		if n := len(k.blocks); n > 0 {
			store.Drop(k.v, k.blocks[n-1])
		}
	case 6:
		if n := len(k.nodes); n > 0 {
			store.Release(k.v, k.nodes[n-1])
		}
	}
}

// apart asks that no number is in both.
func apart(t *testing.T, a, b []int) {
	t.Helper()
	for _, n := range a {
		if slices.Contains(b, n) {
			t.Fatalf("%d is taken by both", n)
		}
	}
}

// P9.2: two views that take in turn: the second one's lowest block and number are the ones behind the first one's.
func TestTwoViewsInTurn(t *testing.T) {
	m := holding(map[int]uint64{ownersAt + 1: 2, cardsAt + 8*3: 257})
	a, b := of(t, m), of(t, m)
	takes(t, a, 2, 0)
	numbers(t, a, api.File, 2, 1)
	b.Avoid([]int{0}, []int{2})
	takes(t, b, 2, 2)
	numbers(t, b, api.File, 4, 1)
	a.Avoid([]int{2}, []int{4})
	takes(t, a, 2, 3)
	numbers(t, a, api.File, 5, 1)
	b.Avoid([]int{0, 3}, []int{2, 5})
	takes(t, b, 2, 4)
	numbers(t, b, api.File, 6, 1)
	ownerIs(t, b, 0, -1, api.OK)
	ownerIs(t, a, 2, -1, api.OK)
}

// P9.2: what one has given back is still the other one's to leave alone; what was the memory's neither takes.
func TestTwoViewsAndWhatOneGivesBack(t *testing.T) {
	m := holding(map[int]uint64{ownersAt: 3, cardsAt + 8*2: 257})
	a, b := of(t, m), of(t, m)
	ok(t, store.Drop(a, 0), store.Release(a, 2))
	takes(t, b, 2, 1)
	numbers(t, b, api.File, 3, 1)
	a.Avoid([]int{1}, []int{3})
	takes(t, a, 2, 2)
	numbers(t, a, api.File, 2, 2)
	numbers(t, a, api.File, 4, 1)
	b.Avoid([]int{2}, []int{2, 4})
	takes(t, b, 2, 3)
	numbers(t, b, api.File, 5, 1)
}

// P9.2: till nothing is left, in whatever row: none is both's, and each is one's.
func TestTwoViewsTakeAll(t *testing.T) {
	for seed := range int64(20) {
		r := rand.New(rand.NewSource(seed))
		m := empty()
		a, b := &taker{v: of(t, m)}, &taker{v: of(t, m)}
		for range 150 {
			k, other := a, b
			if r.Intn(3) == 0 {
				k, other = b, a
			}
			k.v.Avoid(other.blocks, other.nodes)
			k.turn(t, r)
			apart(t, a.blocks, b.blocks)
			apart(t, a.nodes, b.nodes)
		}
		if len(a.blocks)*len(b.blocks)*len(a.nodes)*len(b.nodes) == 0 {
			t.Fatalf("seed %d: one took nothing", seed)
		}
		takeTheRest(t, a, b)
		takeTheRest(t, b, a)
		apart(t, a.blocks, b.blocks)
		apart(t, a.nodes, b.nodes)
		allAre(t, append(a.blocks, b.blocks...), 0, 96)
		allAre(t, append(a.nodes, b.nodes...), 2, 24)
	}
}

// takeTheRest takes all that is left for one of two views.
func takeTheRest(t *testing.T, k, other *taker) {
	t.Helper()
	k.v.Avoid(other.blocks, other.nodes)
	for range 96 {
		k.takeBlock(t)
		k.takeNode(t)
	}
	freeAre(t, k.v, 0)
}

// allAre asks that numbers are all those from first on, and none from end on.
func allAre(t *testing.T, l []int, first, end int) {
	t.Helper()
	for n := min(first, slices.Min(l)); n <= max(end, slices.Max(l)); n++ {
		if slices.Contains(l, n) != (n >= first && n < end) {
			t.Fatalf("%d is taken, or isn't, of %d to %d", n, first, end)
		}
	}
}
