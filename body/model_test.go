package body_test

import (
	"math/rand"
	"slices"
	"testing"

	"escritoire/api"
	"escritoire/body"
	"escritoire/cards"
	"escritoire/memory"
	"escritoire/store"
	"escritoire/view"
)

// plain is a file as the chapter tells it: bytes, and which places of its map have a block.
type plain struct {
	node  int
	card  api.Card
	bytes []byte
	has   [21]bool
}

func (p *plain) write(at int, data string) {
	if data == "" {
		return
	}
	p.long(at + len(data))
	copy(p.bytes[at:], data)
	for i := range len(data) {
		p.has[(at+i)/128] = true
	}
}

// long makes the file so long at least.
func (p *plain) long(n int) {
	for len(p.bytes) < n {
		p.bytes = append(p.bytes, 0)
	}
}

func (p *plain) cut(n int) {
	p.long(n)
	p.bytes = p.bytes[:n]
	for place := range p.has {
		p.has[place] = p.has[place] && place*128 < n
	}
}

// needs is how many blocks the file has, More's among them.
func (p *plain) needs() int {
	n, more := 0, 0
	for place, has := range p.has {
		if has {
			n++
		}
		if has && place >= 5 {
			more = 1
		}
	}
	return n + more
}

// desk is files of one view, and their models.
type desk struct {
	t     *testing.T
	r     *rand.Rand
	m     *memory.Memory
	v     *view.View
	files []*plain // as the view has them
	made  []*plain // as the memory has them
}

// newDesk is a desk of three files, over a memory whose blocks hold what is no file's; so many of them may be taken.
func newDesk(t *testing.T, seed int64, blocks int) *desk {
	t.Helper()
	l := map[int]uint64{}
	for block := range 96 {
		if block*blocks/96 == (block+1)*blocks/96 {
			l[ownersAt+block] = 24
		}
	}
	for at := blocksAt; at < size; at++ {
		l[at] = greatest / uint64(at)
	}
	x := &desk{t: t, r: rand.New(rand.NewSource(seed)), m: holding(l)}
	x.v = of(t, x.m)
	for _, node := range []int{1, 2, 22} {
		x.files = append(x.files, &plain{node: node, card: fresh()})
	}
	x.made = copies(x.files)
	return x
}

// near is a place of a file's bytes, oft at an edge.
func (x *desk) near() int {
	at := x.r.Intn(2700)
	switch x.r.Intn(4) {
	case 0:
		at = at/128*128 + x.r.Intn(3) - 1
	case 1:
		at = at/8*8 + x.r.Intn(3) - 1
	case 2:
		at %= 700
	}
	return max(at, 0)
}

// data is bytes, none of them 0.
func (x *desk) data() string {
	b := make([]byte, []int{0, 1, 5, 128, 399, 400}[x.r.Intn(6)])
	for i := range b {
		b[i] = byte(x.r.Intn(255) + 1)
	}
	return string(b)
}

// write writes some bytes, where there is room in the file; where there are no blocks for them, all is undone.
func (x *desk) write(p *plain) {
	at, data := x.near(), x.data()
	had, free := p.needs(), store.Free(x.v)
	c, e := body.Write(x.v, p.node, p.card, at, data)
	if data != "" && at+len(data) > 2688 {
		if c != (api.Card{}) || e != api.ErrLarge {
			x.t.Fatalf("%d bytes at %d: %v %d", len(data), at, c, e)
		}
		return
	}
	p.write(at, data)
	if p.needs()-had > free {
		if c != (api.Card{}) || e != api.ErrSpace {
			x.t.Fatalf("%d bytes at %d, %d blocks left: %v %d", len(data), at, free, c, e)
		}
		x.undo()
		return
	}
	ok(x.t, e)
	p.card = c
}

// cut cuts a file, or makes it longer.
func (x *desk) cut(p *plain) {
	n := min(x.near(), 2688)
	c, e := body.Cut(x.v, p.node, p.card, n)
	ok(x.t, e)
	p.cut(n)
	p.card = c
}

// commit makes the view's changes in the memory, so that blocks that were given back are fresh.
func (x *desk) commit() {
	for _, c := range x.v.Changes() {
		ok(x.t, x.m.Store(c.At, c.V))
	}
	x.v.Reset()
	x.made = copies(x.files)
}

// undo makes all as it was when the changes were made last.
func (x *desk) undo() {
	x.v.Reset()
	x.files = copies(x.made)
}

// copies answers files that share nothing with these.
func copies(files []*plain) []*plain {
	var l []*plain
	for _, p := range files {
		c := *p
		c.bytes = slices.Clone(p.bytes)
		l = append(l, &c)
	}
	return l
}

// right asks that each file has its bytes, and just its blocks, each as its own.
func (x *desk) right() {
	x.t.Helper()
	owners := map[int]int{}
	for _, p := range x.files {
		if s, e := body.Read(x.v, p.card, 0, 4096); s != string(p.bytes) || e != api.OK {
			x.t.Fatalf("file %d: other bytes, or error %d", p.node, e)
		}
		at, n := x.near(), x.r.Intn(500)
		from := min(at, len(p.bytes))
		reads(x.t, x.v, p.card, at, n, string(p.bytes[from:min(from+n, len(p.bytes))]))
		if p.card.Size != len(p.bytes) || p.card.Version != 7 || !cards.Right(p.card) {
			x.t.Fatal(p.card)
		}
		x.has(p, owners)
	}
	for block := range 96 {
		w := x.v.Read(ownersAt + block)
		if w != 24 && int(w) != owners[block] {
			x.t.Fatalf("block %d: %d, not %d", block, w, owners[block])
		}
	}
	if len(x.v.Seen())+len(x.v.Mine()) != 0 {
		x.t.Fatal("cards are noted")
	}
}

// has asks that a file has a block just where its model has one, and notes whose they are; none may be noted already.
func (x *desk) has(p *plain, owners map[int]int) {
	x.t.Helper()
	m, e := body.Map(x.v, p.card)
	ok(x.t, e)
	for place, block := range append(m, p.card.More) {
		if block == -1 {
			continue
		}
		if owners[block] != 0 {
			x.t.Fatalf("block %d is had twice", block)
		}
		owners[block] = p.node + 1
		if place < 21 && !p.has[place] {
			x.t.Fatalf("file %d has a block in the place %d", p.node, place)
		}
	}
	n := 0
	for _, owner := range owners {
		if owner == p.node+1 {
			n++
		}
	}
	if n != p.needs() {
		x.t.Fatalf("file %d has %d blocks, not %d", p.node, n, p.needs())
	}
}

// P10.1, P10.2: random rows of writes, cuts and reads of three files in one view, held against plain ones; blocks may run out, and the changes are made from time to time.
func TestRandomRows(t *testing.T) {
	for seed := range int64(24) {
		x := newDesk(t, seed, []int{96, 70, 40, 12}[seed%4])
		for range 150 {
			p := x.files[x.r.Intn(3)]
			if x.r.Intn(3) == 0 {
				x.cut(p)
			} else {
				x.write(p)
			}
			x.right()
			if x.r.Intn(6) == 0 {
				x.commit()
				x.right()
			}
		}
		x.commit()
		for _, p := range x.files {
			x.cutToNothing(p)
		}
		x.right()
	}
}

// cutToNothing cuts a file to no bytes: it has no block then.
func (x *desk) cutToNothing(p *plain) {
	c, e := body.Cut(x.v, p.node, p.card, 0)
	ok(x.t, e)
	p.cut(0)
	p.card = c
	ownsJust(x.t, x.v, p.node)
}

// P10.2: two files that grow in turn: neither has, or touches, a block of the other one.
func TestTwoFilesInTurn(t *testing.T) {
	v := empty(t)
	a, b := fresh(), fresh()
	for at := 0; at < 1200; at += 100 {
		a = writes(t, v, 4, a, at, numberedBytes(100), at+100)
		before := shows(v)
		b = writes(t, v, 5, b, at, numberedBytes(99), at+99)
		othersStay(t, v, before, 5)
	}
	reads(t, v, a, 700, 100, numberedBytes(100))
	before := shows(v)
	b = cuts(t, v, 5, b, 300)
	othersStay(t, v, before, 5)
	before = shows(v)
	a = cuts(t, v, 4, a, 129)
	othersStay(t, v, before, 4)
	reads(t, v, b, 200, 4096, numberedBytes(99)+"\x00")
	reads(t, v, a, 0, 4096, numberedBytes(100)+numberedBytes(29))
}

// othersStay asks that of owners and blocks just those that were free, or a file's, are other ones than ahead.
func othersStay(t *testing.T, v *view.View, before shown, node int) {
	t.Helper()
	now := shows(v)
	for at, w := range now.words {
		block := at - ownersAt
		if at >= blocksAt {
			block = (at - blocksAt) / 16
		}
		if w == before.words[at] {
			continue
		}
		if block < 0 || block > 95 {
			t.Fatalf("word %d is another one", at)
		}
		if owner := before.words[ownersAt+block]; owner != 0 && owner != uint64(node)+1 {
			t.Fatalf("word %d of file %d is another one", at, owner-1)
		}
	}
}
