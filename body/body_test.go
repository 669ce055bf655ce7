package body_test

import (
	"math"
	"slices"
	"strings"
	"testing"

	"escritoire/api"
	"escritoire/body"
	"escritoire/cards"
	"escritoire/memory"
	"escritoire/plan"
	"escritoire/store"
	"escritoire/view"
	"escritoire/words"
)

const (
	size     = 2824
	ownersAt = 200
	blocksAt = 1288
	greatest = math.MaxUint64
)

// holding is a memory of the plan, with these words beside the head.
func holding(words map[int]uint64) *memory.Memory {
	l := make([]uint64, size)
	copy(l, plan.Head())
	for at, w := range words {
		l[at] = w
	}
	return memory.Load(l)
}

// empty is a view of a memory without files, whose blocks hold what is no file's.
func empty(t *testing.T) *view.View {
	t.Helper()
	l := map[int]uint64{}
	for at := blocksAt; at < size; at++ {
		l[at] = greatest - uint64(at)
	}
	return of(t, holding(l))
}

// left is a view of a memory in which so many blocks, the last ones, are fresh.
func left(t *testing.T, n int) *view.View {
	t.Helper()
	l := map[int]uint64{}
	for block := range 96 - n {
		l[ownersAt+block] = 24
	}
	return of(t, holding(l))
}

// of is a new view of a memory.
func of(t *testing.T, m *memory.Memory) *view.View {
	t.Helper()
	v := view.New(m)
	if v == nil {
		t.Fatal("no view")
	}
	return v
}

// lettered is a view of a memory in which each block's words are other ones, and all blocks file 3's.
func lettered(t *testing.T) *view.View {
	t.Helper()
	l := map[int]uint64{}
	for block := range 96 {
		l[ownersAt+block] = 4
		text, e := words.Text(lettersOf(block), 16)
		ok(t, e)
		for i, w := range text {
			l[blocksAt+16*block+i] = w
		}
	}
	return of(t, holding(l))
}

// lettersOf is the bytes of a block of lettered; none is 0, and no two blocks have one at the same place.
func lettersOf(block int) string {
	b := make([]byte, 128)
	for i := range b {
		b[i] = byte((block+i)%255 + 1)
	}
	return string(b)
}

// fresh is a file's card without bytes and blocks.
func fresh() api.Card {
	return api.Card{Kind: api.File, Links: 1, Version: 7, Direct: [5]int{-1, -1, -1, -1, -1}, More: -1}
}

// holes is a map without blocks, but for these places'.
func holes(blocks map[int]int) []int {
	m := slices.Repeat([]int{-1}, 21)
	for place, block := range blocks {
		m[place] = block
	}
	return m
}

// numberedBytes is n bytes, none of them 0.
func numberedBytes(n int) string {
	b := make([]byte, n)
	for i := range b {
		b[i] = byte(i%251 + 1)
	}
	return string(b)
}

// zeros is n bytes 0.
func zeros(n int) string { return strings.Repeat("\x00", n) }

// outside is numbers that none of n things has.
func outside(n int) []int {
	return []int{-1, -2, -16, n, n + 1, 4096, 1 << 32, 1<<32 + 1, 1 << 60, math.MinInt, math.MinInt + 1, math.MaxInt - 1, math.MaxInt}
}

// ok asks that every call answered OK.
func ok(t *testing.T, l ...api.Errno) {
	t.Helper()
	for i, e := range l {
		if e != api.OK {
			t.Fatalf("call %d: error %d", i, e)
		}
	}
}

// shown is all that a view shows.
type shown struct {
	words      []uint64
	changes    []api.Change
	seen, mine []int
}

func shows(v *view.View) shown {
	s := shown{changes: v.Changes(), seen: v.Seen(), mine: v.Mine()}
	for at := range size {
		s.words = append(s.words, v.Read(at))
	}
	return s
}

// still asks that a view shows what it showed.
func (s shown) still(t *testing.T, v *view.View) {
	t.Helper()
	now := shows(v)
	if !slices.Equal(now.words, s.words) || !slices.Equal(now.changes, s.changes) {
		t.Fatal("words are other ones now")
	}
	if !slices.Equal(now.seen, s.seen) || !slices.Equal(now.mine, s.mine) {
		t.Fatal("other cards are noted now")
	}
}

// mapIs asks for a card's map.
func mapIs(t *testing.T, v *view.View, c api.Card, want []int) {
	t.Helper()
	before := shows(v)
	m, e := body.Map(v, c)
	if e != api.OK || !slices.Equal(m, want) {
		t.Fatalf("Map of %v: %v %d, not %v", c, m, e, want)
	}
	before.still(t, v)
}

// mapFails asks that a card has no map, and no other call takes it for one's.
func mapFails(t *testing.T, v *view.View, c api.Card) {
	t.Helper()
	before := shows(v)
	if m, e := body.Map(v, c); m != nil || e != api.ErrCorrupt {
		t.Fatalf("Map of %v: %v %d", c, m, e)
	}
	readFails(t, v, c, 0, 0, api.ErrCorrupt)
	readFails(t, v, c, 4000, 1, api.ErrCorrupt)
	for _, data := range []string{"", "a"} {
		writeFails(t, v, 3, c, 0, data, api.ErrCorrupt)
	}
	cutFails(t, v, 3, c, 0, api.ErrCorrupt)
	before.still(t, v)
}

// keeps asks that Keep answers the card with a map and this More.
func keeps(t *testing.T, v *view.View, node int, c api.Card, m []int, more int) api.Card {
	t.Helper()
	handed := slices.Clone(m)
	got, e := body.Keep(v, node, c, m)
	want := c
	copy(want.Direct[:], handed)
	want.More = more
	if got != want || e != api.OK {
		t.Fatalf("Keep: %v %d, not %v", got, e, want)
	}
	if !slices.Equal(m, handed) {
		t.Fatal("the map that was handed in is another one")
	}
	mapIs(t, v, got, handed)
	return got
}

// keepFails asks that Keep refuses, and leaves all as it was.
func keepFails(t *testing.T, v *view.View, node int, c api.Card, m []int, want api.Errno) {
	t.Helper()
	before := shows(v)
	if got, e := body.Keep(v, node, c, m); got != (api.Card{}) || e != want {
		t.Fatalf("Keep: %v %d, not error %d", got, e, want)
	}
	before.still(t, v)
}

// reads asks for a file's bytes.
func reads(t *testing.T, v *view.View, c api.Card, at, n int, want string) {
	t.Helper()
	if s, e := body.Read(v, c, at, n); s != want || e != api.OK {
		t.Fatalf("Read of %d at %d: %q %d, not %q", n, at, s, e, want)
	}
}

// readFails asks that Read refuses.
func readFails(t *testing.T, v *view.View, c api.Card, at, n int, want api.Errno) {
	t.Helper()
	if s, e := body.Read(v, c, at, n); s != "" || e != want {
		t.Fatalf("Read of %d at %d: %q %d, not error %d", n, at, s, e, want)
	}
}

// writes asks that bytes are written, and that the card has so many then; of what isn't told here nothing is another one.
func writes(t *testing.T, v *view.View, node int, c api.Card, at int, data string, size int) api.Card {
	t.Helper()
	got, e := body.Write(v, node, c, at, data)
	if e != api.OK || got.Size != size || got.Kind != c.Kind || got.Links != c.Links || got.Version != c.Version || !cards.Right(got) {
		t.Fatalf("Write of %d at %d: %v %d, not of size %d", len(data), at, got, e, size)
	}
	reads(t, v, got, at, len(data), data)
	return got
}

// writeFails asks that Write refuses.
func writeFails(t *testing.T, v *view.View, node int, c api.Card, at int, data string, want api.Errno) {
	t.Helper()
	if got, e := body.Write(v, node, c, at, data); got != (api.Card{}) || e != want {
		t.Fatalf("Write of %d at %d: %v %d, not error %d", len(data), at, got, e, want)
	}
}

// cuts asks that a file is cut, or made longer.
func cuts(t *testing.T, v *view.View, node int, c api.Card, size int) api.Card {
	t.Helper()
	got, e := body.Cut(v, node, c, size)
	if e != api.OK || got.Size != size || got.Kind != c.Kind || got.Links != c.Links || got.Version != c.Version || !cards.Right(got) {
		t.Fatalf("Cut to %d: %v %d", size, got, e)
	}
	return got
}

// cutFails asks that Cut refuses.
func cutFails(t *testing.T, v *view.View, node int, c api.Card, size int, want api.Errno) {
	t.Helper()
	if got, e := body.Cut(v, node, c, size); got != (api.Card{}) || e != want {
		t.Fatalf("Cut to %d: %v %d, not error %d", size, got, e, want)
	}
}

// ownsJust asks that a file has just these blocks as its own.
func ownsJust(t *testing.T, v *view.View, node int, want ...int) {
	t.Helper()
	var l []int
	for block := range 96 {
		if v.Read(ownersAt+block) == uint64(node)+1 {
			l = append(l, block)
		}
	}
	if !slices.Equal(l, want) {
		t.Fatalf("file %d has the blocks %v, not %v", node, l, want)
	}
}

// setMore makes the words of a block, from the first on, these.
func setMore(t *testing.T, v *view.View, block int, l ...uint64) {
	t.Helper()
	ok(t, v.SetBlock(block, l))
}

// P10.1: the chapter's example.
func TestExample(t *testing.T) {
	v := empty(t)
	c := writes(t, v, 2, fresh(), 700, "ab", 702)
	reads(t, v, c, 0, 4096, zeros(700)+"ab")
	ownsJust(t, v, 2, 0, 1)
	mapIs(t, v, c, holes(map[int]int{5: 0}))
	if c.More != 1 {
		t.Error(c)
	}
}

// P10.1: cards without More: the five places are the card's, the others holes.
func TestMapOfDirect(t *testing.T) {
	v := lettered(t)
	for _, direct := range [][5]int{{-1, -1, -1, -1, -1}, {0, 1, 2, 3, 4}, {95, -1, 0, -1, 94}, {-1, -1, -1, -1, 7}} {
		c := fresh()
		c.Direct = direct
		want := holes(nil)
		copy(want, direct[:])
		mapIs(t, v, c, want)
		c.Kind, c.Size = api.Dir, 2688
		mapIs(t, v, c, want)
	}
}

// P10.1: More's words, at each of its places, of each block at the edges; of the memory and of the view.
func TestMapOfMore(t *testing.T) {
	for _, more := range []int{0, 1, 95} {
		for place := range 16 {
			for _, w := range []uint64{1, 2, 50, 95, 96} {
				c := fresh()
				c.Direct[4], c.More = 9, more
				want := holes(map[int]int{4: 9, 5 + place: int(w) - 1})
				mapIs(t, of(t, holding(map[int]uint64{blocksAt + 16*more + place: w})), c, want)
				v := of(t, holding(nil))
				ok(t, v.Write(blocksAt+16*more+place, w))
				mapIs(t, v, c, want)
			}
		}
	}
	v := of(t, holding(nil))
	l := []uint64{96, 0, 2, 3, 4, 5, 6, 7, 8, 9, 10, 11, 12, 13, 14, 1}
	setMore(t, v, 40, l...)
	c := fresh()
	c.More = 40
	want := holes(nil)
	for i, w := range l {
		want[5+i] = int(w) - 1
	}
	mapIs(t, v, c, want)
}

// P10.1, R2, R3: words of More that tell no block that there is, at each place, and no words at all.
func TestMapCorrupt(t *testing.T) {
	for _, more := range []int{0, 95} {
		c := fresh()
		c.More, c.Size = more, 900
		v := of(t, holding(nil))
		mapFails(t, v, c)
		for place := range 16 {
			for _, w := range []uint64{97, 98, 128, 256, 257, 1 << 16, 1 << 32, 1<<32 + 1, 1 << 63, 1<<63 + 1, greatest} {
				v := of(t, holding(nil))
				setMore(t, v, more, slices.Repeat([]uint64{1}, 16)...)
				ok(t, v.Write(blocksAt+16*more+place, w))
				mapFails(t, v, c)
				setMore(t, v, more)
				ok(t, v.Write(blocksAt+16*more+place, w))
				mapFails(t, v, c)
			}
		}
	}
}

// P10.1: holes from the place 5 on: More stays none, or is given back; its words then play no part.
func TestKeepOfHoles(t *testing.T) {
	for _, node := range []int{0, 2, 23} {
		v := empty(t)
		before := shows(v)
		c := keeps(t, v, node, fresh(), holes(map[int]int{0: 95, 2: 0, 4: 17}), -1)
		before.still(t, v)
		c = keeps(t, v, node, c, holes(map[int]int{20: 3}), 0)
		ownsJust(t, v, node, 0)
		c = keeps(t, v, node, c, holes(map[int]int{4: 3}), -1)
		ownsJust(t, v, node)
		keeps(t, v, node, c, holes(nil), -1)
	}
}

// P10.1: a place from 5 on: More's block is taken, for this file, and has them; it is kept while one of them is no hole.
func TestKeepOfMore(t *testing.T) {
	for _, node := range []int{0, 2, 23} {
		for place := 5; place < 21; place++ {
			v := empty(t)
			v.Avoid([]int{0, 1, 3}, nil)
			c := keeps(t, v, node, fresh(), holes(map[int]int{place: 95}), 2)
			ownsJust(t, v, node, 2)
			if v.Read(blocksAt+32+place-5) != 96 {
				t.Fatal("More's word isn't the block and 1")
			}
			all := []int{95, 94, 93, 92, 91, 0, 1, 2, 3, 4, 5, 6, 7, 8, 9, 10, 11, 12, 13, 14, 15}
			c = keeps(t, v, node, c, all, 2)
			c = keeps(t, v, node, c, holes(map[int]int{25 - place: 0}), 2)
			ownsJust(t, v, node, 2)
			if n := len(v.Seen()) + len(v.Mine()); n != 0 {
				t.Fatalf("%d cards are noted", n)
			}
		}
	}
}

// P10.1: what stood in More's block, words that are no map's among it, isn't asked for, and is gone; nor is its owner, where it is kept.
func TestKeepOverwritesMore(t *testing.T) {
	v := of(t, holding(nil))
	setMore(t, v, 95, slices.Repeat([]uint64{greatest}, 16)...)
	c := fresh()
	c.More = 95
	keeps(t, v, 2, c, holes(map[int]int{12: 4}), 95)
	if len(v.Changes()) != 1 {
		t.Error(v.Changes())
	}
}

// P10.1, R2, R3: maps, files and blocks that there are not.
func TestKeepRefused(t *testing.T) {
	c := fresh()
	c.More = 9
	full := left(t, 0)
	for _, v := range []*view.View{empty(t), full} {
		for _, n := range []int{0, 1, 5, 16, 20, 22, 42} {
			keepFails(t, v, 2, c, make([]int, n), api.ErrArg)
			keepFails(t, v, 2, fresh(), slices.Repeat([]int{-1}, n), api.ErrArg)
		}
		keepFails(t, v, 2, c, nil, api.ErrArg)
		for place := range 21 {
			for _, block := range []int{-2, -3, 96, 97, 256, 1 << 16, 1 << 32, 1<<32 + 1, math.MinInt, math.MaxInt} {
				keepFails(t, v, 2, c, holes(map[int]int{place: block}), api.ErrArg)
				keepFails(t, v, 2, fresh(), holes(map[int]int{20: 1, place: block}), api.ErrArg)
			}
		}
		for _, node := range outside(24) {
			keepFails(t, v, node, c, holes(nil), api.ErrArg)
			keepFails(t, v, node, fresh(), holes(map[int]int{7: 1}), api.ErrArg)
			keepFails(t, v, node, fresh(), nil, api.ErrArg)
		}
	}
	keepFails(t, full, 2, fresh(), holes(map[int]int{5: 1}), api.ErrSpace)
	keeps(t, full, 2, c, holes(map[int]int{5: 1}), 9)
	keepFails(t, empty(t), 2, c, holes(map[int]int{1: 1}), api.ErrCorrupt)
	keeps(t, left(t, 1), 2, fresh(), holes(map[int]int{5: 95}), 95)
}

// P10.1: n at its edges, over holes and blocks, within words and over the edges of blocks; nothing is noted or changed.
func TestRead(t *testing.T) {
	v := lettered(t)
	setMore(t, v, 0, 0, 41, 0, 0, 0, 0, 0, 0, 0, 0, 0, 0, 0, 0, 0, 96)
	c := fresh()
	c.Direct, c.More, c.Size = [5]int{7, 95, -1, 1, -1}, 0, 2688
	whole := lettersOf(7) + lettersOf(95) + zeros(128) + lettersOf(1) + zeros(256) + lettersOf(40) + zeros(13*128) + lettersOf(95)
	if len(whole) != 2688 {
		t.Fatal(len(whole))
	}
	before := shows(v)
	for _, size := range []int{0, 1, 7, 8, 127, 128, 129, 600, 896, 897, 2559, 2560, 2561, 2687, 2688} {
		c.Size = size
		for _, at := range []int{0, 1, 3, 8, 120, 127, 128, 129, 255, 256, 300, 639, 640, size - 2, size - 1, size, size + 1, 2687, 2688, 2689, 1 << 40, math.MaxInt - 4096, math.MaxInt} {
			for _, n := range []int{0, 1, 2, 7, 8, 9, 127, 128, 129, 400, 2688, 4095, 4096} {
				if at < 0 {
					continue
				}
				from := min(at, size)
				reads(t, v, c, at, n, whole[from:min(from+n, size)])
			}
		}
	}
	before.still(t, v)
}

// P10.1: each byte by itself.
func TestReadOfEachByte(t *testing.T) {
	v := lettered(t)
	c := fresh()
	c.Direct, c.Size = [5]int{3, 2, -1, 0, 1}, 640
	whole := lettersOf(3) + lettersOf(2) + zeros(128) + lettersOf(0) + lettersOf(1)
	for i := range whole {
		reads(t, v, c, i, 1, whole[i:i+1])
	}
}

// P10.1, R1, R2: places and counts that may not be; ErrArg is told ahead of ErrCorrupt.
func TestReadRefused(t *testing.T) {
	corrupt := fresh()
	corrupt.More = 4
	v := of(t, holding(nil))
	for _, c := range []api.Card{fresh(), corrupt} {
		for _, n := range []int{-1, -2, 4097, 4098, 1 << 32, math.MinInt, math.MaxInt} {
			readFails(t, v, c, 0, n, api.ErrArg)
			readFails(t, v, c, -1, n, api.ErrArg)
		}
		for _, at := range []int{-1, -2, -4096, math.MinInt} {
			for _, n := range []int{0, 1, 4096} {
				readFails(t, v, c, at, n, api.ErrArg)
			}
		}
	}
	readFails(t, v, corrupt, 0, 0, api.ErrCorrupt)
	reads(t, v, fresh(), 0, 0, "")
}

// P10.1: a Size without blocks: all bytes are 0, in each part, till some are written.
func TestSizeOfHoles(t *testing.T) {
	v := empty(t)
	c := cuts(t, v, 2, fresh(), 2688)
	ownsJust(t, v, 2)
	reads(t, v, c, 0, 4096, zeros(2688))
	reads(t, v, c, 2687, 9, zeros(1))
	c = writes(t, v, 2, c, 1000, "x", 2688)
	ownsJust(t, v, 2, 0, 1)
	reads(t, v, c, 0, 4096, zeros(1000)+"x"+zeros(1687))
}

// P10.1: one, most and no bytes at each kind of edge: what was there beside them stays, and between them and the Size bytes are 0.
func TestWriteAtEdges(t *testing.T) {
	for _, at := range []int{0, 1, 7, 8, 9, 100, 120, 127, 128, 129, 255, 256, 500, 511, 512, 513, 639, 640, 641, 2048, 2287, 2288, 2687} {
		for _, n := range []int{1, 2, 8, 127, 128, 129, 256, 257, 399, 400} {
			if at+n > 2688 {
				continue
			}
			v := empty(t)
			old := numberedBytes(300)
			c := writes(t, v, 2, fresh(), 0, old, 300)
			data := strings.Repeat("#", n)
			want := []byte(old + zeros(2388))
			copy(want[at:], data)
			size := max(300, at+n)
			c = writes(t, v, 2, c, at, data, size)
			reads(t, v, c, 0, 4096, string(want[:size]))
			blocksTouched(t, v, c, at, n)
		}
	}
}

// blocksTouched asks that a file of 300 bytes, and n more from at on, has blocks for these alone, taken from the lowest place on, and More's behind them.
func blocksTouched(t *testing.T, v *view.View, c api.Card, at, n int) {
	t.Helper()
	want := holes(map[int]int{0: 0, 1: 1, 2: 2})
	next := 3
	for place := at / 128; place <= (at+n-1)/128; place++ {
		if want[place] == -1 {
			want[place] = next
			next++
		}
	}
	mapIs(t, v, c, want)
	more := -1
	if at+n > 640 {
		more = next
		next++
	}
	if c.More != more || store.Free(v) != 96-next {
		t.Fatalf("%d bytes at %d: %v, and %d blocks are free", n, at, c, store.Free(v))
	}
	ownsJust(t, v, 2, numbers(next)...)
}

// P10.1: up to the last byte that a file may have, and one more.
func TestWriteOfTheLastBytes(t *testing.T) {
	for _, n := range []int{1, 2, 128, 129, 400} {
		v := empty(t)
		data := numberedBytes(n)
		c := writes(t, v, 2, fresh(), 2688-n, data, 2688)
		reads(t, v, c, 0, 4096, zeros(2688-n)+data)
		before := shows(v)
		for _, at := range []int{2689 - n, 2690 - n, 2688, 2689, 4096, 1 << 40, math.MaxInt - n, math.MaxInt - 1, math.MaxInt} {
			writeFails(t, v, 2, c, at, data, api.ErrLarge)
			writeFails(t, v, 2, fresh(), at, data, api.ErrLarge)
		}
		before.still(t, v)
	}
}

// P10.1: the card as it is, whatever it says, wherever the bytes would be.
func TestWriteOfNoBytes(t *testing.T) {
	full := left(t, 0)
	c := fresh()
	c.Direct, c.Size, c.Kind = [5]int{4, -1, 95, 4, 0}, 99, api.Link
	for _, v := range []*view.View{empty(t), full, lettered(t)} {
		before := shows(v)
		for _, at := range []int{0, 1, 98, 99, 100, 2687, 2688, 2689, 9999, math.MaxInt} {
			for _, c := range []api.Card{c, fresh()} {
				if got, e := body.Write(v, 2, c, at, ""); got != c || e != api.OK {
					t.Fatalf("at %d: %v %d", at, got, e)
				}
			}
		}
		before.still(t, v)
	}
}

// P10.1: no bytes write no word, not even of More's block: what the memory has there is still to be seen.
func TestWriteOfNoBytesWritesNothing(t *testing.T) {
	m := holding(map[int]uint64{blocksAt + 16*6: 3})
	v := of(t, m)
	c := fresh()
	c.More = 6
	if got, e := body.Write(v, 2, c, 700, ""); got != c || e != api.OK {
		t.Fatal(got, e)
	}
	ok(t, m.Store(blocksAt+16*6, 4))
	mapIs(t, v, c, holes(map[int]int{5: 3}))
}

// P10.1: a file that has too many bytes already may not be written, but may be cut.
func TestFileThatIsTooLarge(t *testing.T) {
	v := empty(t)
	c := fresh()
	for _, size := range []int{2689, 1 << 40, math.MaxInt} {
		c.Size = size
		writeFails(t, v, 2, c, 0, "a", api.ErrLarge)
		cuts(t, v, 2, c, 2688)
	}
}

// P10.1, R1, R2, R3: each error by itself, and ahead of those that the chapter names behind it.
func TestWriteRefused(t *testing.T) {
	corrupt := fresh()
	corrupt.More = 4
	for _, v := range []*view.View{of(t, holding(nil)), left(t, 0)} {
		before := shows(v)
		for _, c := range []api.Card{fresh(), corrupt} {
			for _, data := range []string{"", "a", numberedBytes(400)} {
				for _, node := range outside(24) {
					writeFails(t, v, node, c, 0, data, api.ErrArg)
					writeFails(t, v, node, c, 2688, data, api.ErrArg)
				}
				for _, at := range []int{-1, -2, -400, math.MinInt, math.MinInt + 1} {
					writeFails(t, v, 2, c, at, data, api.ErrArg)
				}
			}
			for _, n := range []int{401, 402, 512, 2688, 2689, 5000} {
				for _, at := range []int{0, 2288, 2688, 9999, math.MaxInt} {
					writeFails(t, v, 2, c, at, numberedBytes(n), api.ErrArg)
				}
			}
			writeFails(t, v, 2, c, 2688, "a", api.ErrLarge)
			writeFails(t, v, 2, c, 2289, numberedBytes(400), api.ErrLarge)
		}
		writeFails(t, v, 2, corrupt, 2687, "a", api.ErrCorrupt)
		writeFails(t, v, 2, corrupt, 9999, "", api.ErrCorrupt)
		before.still(t, v)
	}
	writeFails(t, left(t, 0), 2, fresh(), 0, "a", api.ErrSpace)
}

// P10.1: as many blocks as are needed, More's among them, and one less.
func TestWriteOfTheLastBlocks(t *testing.T) {
	for _, x := range []struct{ at, n, needs int }{
		{0, 1, 1}, {127, 1, 1}, {127, 2, 2}, {0, 128, 1}, {0, 129, 2}, {10, 400, 4}, {639, 1, 1},
		{640, 1, 2}, {639, 2, 3}, {500, 400, 6}, {2687, 1, 2}, {2288, 400, 5}, {2560, 128, 2},
	} {
		data := numberedBytes(x.n)
		c := writes(t, left(t, x.needs), 2, fresh(), x.at, data, x.at+x.n)
		if (c.More == -1) != (x.at+x.n <= 640) {
			t.Errorf("%d at %d: %v", x.n, x.at, c)
		}
		writeFails(t, left(t, x.needs-1), 2, fresh(), x.at, data, api.ErrSpace)
	}
}

// P10.1: blocks that a file has, and its More, are written where they are: no other is taken, and none is needed.
func TestWriteIntoBlocks(t *testing.T) {
	for _, node := range []int{0, 2, 23} {
		v := empty(t)
		c := writes(t, v, node, fresh(), 500, numberedBytes(400), 900)
		own, free := ownersOf(v), store.Free(v)
		v.Avoid(numbers(96), nil)
		got := writes(t, v, node, c, 600, numberedBytes(300), 900)
		writes(t, v, node, got, 384, "x", 900)
		longer := writes(t, v, node, got, 1023, "y", 1024)
		if got != c || longer.Direct != c.Direct || longer.More != c.More || !slices.Equal(ownersOf(v), own) || free != 90 {
			t.Error(got, longer, free)
		}
		writeFails(t, v, node, c, 383, "x", api.ErrSpace)
		writeFails(t, v, node, c, 1024, "x", api.ErrSpace)
	}
}

// ownersOf is all owners' words.
func ownersOf(v *view.View) []uint64 {
	var l []uint64
	for block := range 96 {
		l = append(l, v.Read(ownersAt+block))
	}
	return l
}

// P10.1: to each length at an edge, from one that is less, the same, or more: bytes, blocks, and what a later Cut or Write shows.
func TestCut(t *testing.T) {
	old := numberedBytes(1000)
	for _, size := range []int{0, 1, 7, 8, 9, 127, 128, 129, 255, 256, 512, 639, 640, 641, 767, 768, 896, 897, 999, 1000, 1001, 1023, 1024, 1025, 2687, 2688} {
		v := empty(t)
		c := writes(t, v, 2, fresh(), 0, old[:400], 400)
		c = writes(t, v, 2, c, 400, old[400:800], 800)
		c = writes(t, v, 2, c, 800, old[800:], 1000)
		c = cuts(t, v, 2, c, size)
		want := old[:min(size, 1000)] + zeros(max(size-1000, 0))
		reads(t, v, c, 0, 4096, want)
		cutHas(t, v, c, min((size+127)/128, 8))
		grown := cuts(t, v, 2, c, 2688)
		reads(t, v, grown, 0, 4096, want+zeros(2688-size))
		cutHas(t, v, grown, min((size+127)/128, 8))
		far := writes(t, v, 2, c, 2687, "z", 2688)
		reads(t, v, far, 0, 4096, (want + zeros(2688-size))[:2687]+"z")
	}
}

// cutHas asks that a file of 1000 bytes that was cut has so many of its 8 blocks, and More's where it needs it.
func cutHas(t *testing.T, v *view.View, c api.Card, n int) {
	t.Helper()
	want, more, own := holes(nil), -1, n
	// More's block was taken behind the first seven, as the bytes up to the 800th were written.
	copy(want, []int{0, 1, 2, 3, 4, 5, 6, 8}[:n])
	if n > 5 {
		more = 7
		own++
	}
	mapIs(t, v, c, want)
	if c.More != more || store.Free(v) != 96-own {
		t.Fatalf("%d blocks: %v, and %d are free", n, c, store.Free(v))
	}
}

// P10.1: within words: the bytes of a word behind the last one alone are 0, and no other block is touched.
func TestCutWithinWords(t *testing.T) {
	for size := 1; size <= 128; size++ {
		v := lettered(t)
		c := fresh()
		c.Direct, c.Size = [5]int{50, -1, -1, -1, -1}, 128
		cuts(t, v, 3, c, size)
		l, e := v.Block(50)
		ok(t, e)
		if s, e := words.Untext(l, 128); e != api.OK || s != lettersOf(50)[:size]+zeros(128-size) {
			t.Fatalf("%d bytes: %q", size, s)
		}
		for _, x := range v.Changes() {
			if x.At < blocksAt+16*50 || x.At >= blocksAt+16*51 {
				t.Fatalf("word %d is another one", x.At)
			}
		}
	}
}

// P10.1: whatever the Size says, blocks behind are given back, and bytes behind in the last block are 0.
func TestCutGoesByTheMap(t *testing.T) {
	for _, old := range []int{0, 3, 129, 200, 2688} {
		v := lettered(t)
		setMore(t, v, 9, 0, 0, 21)
		c := fresh()
		c.Direct, c.More, c.Size = [5]int{-1, 30, 31, -1, 33}, 9, old
		got := cuts(t, v, 3, c, 140)
		if got.Direct != [5]int{-1, 30, -1, -1, -1} || got.More != -1 {
			t.Fatal(got)
		}
		reads(t, v, got, 0, 200, zeros(128)+lettersOf(30)[:12])
		reads(t, v, cuts(t, v, 3, got, 256), 0, 300, zeros(128)+lettersOf(30)[:12]+zeros(116))
		for _, block := range []int{9, 20, 31, 33} {
			if owner, e := store.Owner(v, block); owner != -1 || e != api.OK {
				t.Fatalf("block %d is file %d's", block, owner)
			}
		}
		if owner, _ := store.Owner(v, 30); owner != 3 {
			t.Fatal(owner)
		}
		ownsJust(t, v, 3, slices.DeleteFunc(numbers(96), func(b int) bool { return b == 9 || b == 20 || b == 31 || b == 33 })...)
		v = lettered(t)
		setMore(t, v, 9, 0, 0, 21)
		if got := cuts(t, v, 3, c, 0); got.Direct != fresh().Direct || got.More != -1 {
			t.Fatal(got)
		}
	}
}

// numbers is all numbers from 0 on, ahead of n.
func numbers(n int) []int {
	l := make([]int, n)
	for i := range l {
		l[i] = i
	}
	return l
}

// P10.1, R1, R2, R3: each error by itself, and ahead of those that the chapter names behind it.
func TestCutRefused(t *testing.T) {
	corrupt := fresh()
	corrupt.More = 4
	for _, v := range []*view.View{of(t, holding(nil)), left(t, 0)} {
		before := shows(v)
		for _, c := range []api.Card{fresh(), corrupt} {
			for _, node := range outside(24) {
				for _, size := range []int{-1, 0, 2688, 2689} {
					cutFails(t, v, node, c, size, api.ErrArg)
				}
			}
			for _, size := range []int{-1, -2, -2688, math.MinInt, math.MinInt + 1} {
				cutFails(t, v, 2, c, size, api.ErrArg)
			}
			for _, size := range []int{2689, 2690, 4096, 1 << 32, math.MaxInt - 127, math.MaxInt} {
				cutFails(t, v, 2, c, size, api.ErrLarge)
			}
		}
		for _, size := range []int{0, 1, 2688} {
			cutFails(t, v, 2, corrupt, size, api.ErrCorrupt)
			cuts(t, v, 2, fresh(), size)
		}
		before.still(t, v)
	}
}

// P10.1: blocks that are free already can't be given back: one of the map's, and More.
func TestCutOfBlocksThatAreFree(t *testing.T) {
	c := fresh()
	c.Direct[3], c.Size = 8, 500
	cutFails(t, of(t, holding(nil)), 2, c, 384, api.ErrCorrupt)
	cuts(t, of(t, holding(nil)), 2, c, 385)
	c.Direct[3], c.More = -1, 7
	m := holding(map[int]uint64{ownersAt + 6: 3, blocksAt + 16*7: 7})
	cutFails(t, of(t, m), 2, c, 640, api.ErrCorrupt)
	cuts(t, of(t, m), 2, c, 641)
	m = holding(map[int]uint64{ownersAt + 6: 3, ownersAt + 7: 3, blocksAt + 16*7: 7})
	cuts(t, of(t, m), 2, c, 640)
	m = holding(map[int]uint64{ownersAt + 7: 3, blocksAt + 16*7: 7})
	cutFails(t, of(t, m), 2, c, 640, api.ErrCorrupt)
}

// P10.1, R7, E0: no view: nil, and one that view.New didn't make.
func TestNoView(t *testing.T) {
	for _, v := range []*view.View{nil, {}} {
		for _, n := range append(outside(24), 0, 1, 2, 23) {
			m, e := body.Map(v, fresh())
			if m != nil || e != api.ErrArg {
				t.Error(m, e)
			}
			keepFails(t, v, n, fresh(), holes(nil), api.ErrArg)
			keepFails(t, v, n, fresh(), holes(map[int]int{9: 9}), api.ErrArg)
			readFails(t, v, fresh(), n, n, api.ErrArg)
			for _, data := range []string{"", "a"} {
				writeFails(t, v, n, fresh(), n, data, api.ErrArg)
			}
			cutFails(t, v, n, fresh(), n, api.ErrArg)
		}
	}
}

// E0: cards that may not be, at all other arguments: the calls end, and answer a zero value beside an error.
func TestCardsThatMayNotBe(t *testing.T) {
	wild := []int{math.MinInt, math.MinInt + 1, -129, -2, -1, 0, 1, 95, 96, 2688, 2689, 1 << 40, math.MaxInt - 1, math.MaxInt}
	for _, a := range wild {
		for _, b := range wild {
			v := lettered(t)
			for _, c := range []api.Card{
				{Size: a, Direct: [5]int{b, -1, 4, b, a}, More: -1},
				{Kind: b, Links: a, Size: b, Direct: [5]int{-1, -1, -1, -1, -1}, More: a},
				{Size: a, Direct: [5]int{5, 5, 5, 5, 5}, More: b},
			} {
				setMore(t, v, 1, 2, 3, 0, 96)
				callAll(t, v, c, a, b)
			}
		}
	}
}

// callAll makes each call, with these numbers wherever one may stand.
func callAll(t *testing.T, v *view.View, c api.Card, a, b int) {
	t.Helper()
	m, e := body.Map(v, c)
	if e != api.OK && m != nil || e == api.OK && len(m) != 21 {
		t.Fatal(m, e)
	}
	for _, n := range []int{a, b, 0, 400, 4096} {
		s, e := body.Read(v, c, a, n)
		if e != api.OK && s != "" || len(s) > max(n, 0) || len(s) > 0 && c.Size <= a {
			t.Fatalf("%v, %d %d: %q %d", c, a, n, s, e)
		}
		for _, got := range cardsOf(v, c, a, n) {
			if got.e != api.OK && got.c != (api.Card{}) {
				t.Fatal(got)
			}
		}
	}
}

// answered is what a call that answers a card told.
type answered struct {
	c api.Card
	e api.Errno
}

// cardsOf is what the calls that answer a card tell.
func cardsOf(v *view.View, c api.Card, at, n int) []answered {
	var l []answered
	add := func(c api.Card, e api.Errno) { l = append(l, answered{c, e}) }
	add(body.Keep(v, 3, c, holes(map[int]int{n & 15: 7})))
	add(body.Write(v, 3, c, at, numberedBytes(n&511)))
	add(body.Write(v, at, c, n, "a"))
	add(body.Cut(v, 3, c, n))
	return l
}

// R4: maps are new memory each time, and what is handed in stays.
func TestMapsAreNewMemory(t *testing.T) {
	v := empty(t)
	c := writes(t, v, 2, fresh(), 600, numberedBytes(100), 700)
	a, e1 := body.Map(v, c)
	b, e2 := body.Map(v, c)
	ok(t, e1, e2)
	want := slices.Clone(b)
	for i := range a {
		a[i] = 50
	}
	if !slices.Equal(b, want) {
		t.Error("two maps share memory")
	}
	mapIs(t, v, c, want)
	m := holes(map[int]int{1: 1, 9: 2})
	c = keeps(t, v, 2, c, m, 2)
	m[1], m[9] = 8, 8
	mapIs(t, v, c, holes(map[int]int{1: 1, 9: 2}))
}

// P10.1: nothing is kept but the view: the memory is as it was, no call of it counts, and no card is noted.
func TestTheMemoryIsLeftAlone(t *testing.T) {
	m := holding(nil)
	image, calls := m.Image(), m.Calls()
	v := of(t, m)
	c := writes(t, v, 2, fresh(), 600, numberedBytes(100), 700)
	cuts(t, v, 2, c, 5)
	if !slices.Equal(m.Image(), image) || m.Calls() != calls || len(m.Loose()) != 0 {
		t.Error("the memory is another one")
	}
	if len(v.Seen())+len(v.Mine()) != 0 {
		t.Error("cards are noted")
	}
}
