package folder_test

import (
	"math"
	"slices"
	"strings"
	"testing"

	"escritoire/api"
	"escritoire/folder"
	"escritoire/view"
)

// sound is a directory that may be, and what it is made of: in each place of its map the block 20 + place, in each of which the first and the fourth entry are names'; More is the block 50.
type sound struct {
	t *testing.T
	v *view.View
	c api.Card
}

func newSound(t *testing.T) sound {
	t.Helper()
	v := left(t, 9)
	blocks := map[int]int{}
	for place := range 21 {
		l := namesOf(place%8, 6)
		ok(t, v.SetBlock(20+place, laid(
			api.Entry{Name: l[place/8*2], Node: place + 1}, api.Entry{}, api.Entry{}, api.Entry{Name: l[place/8*2+1], Node: 23})))
		blocks[place] = 20 + place
	}
	s := sound{t, v, withMap(t, v, 42, 50, blocks)}
	l, e := folder.List(v, s.c)
	if e != api.OK || len(l) != 42 {
		t.Fatal(l, e)
	}
	return s
}

// put makes words of the block in a place, from one on, these, while a question is asked.
func (s sound) put(place, at int, l []uint64, ask func()) {
	s.t.Helper()
	first := blocksAt + 16*(20+place) + at
	var had []uint64
	for i, w := range l {
		had = append(had, s.v.Read(first+i))
		ok(s.t, s.v.Write(first+i, w))
	}
	ask()
	for i, w := range had {
		ok(s.t, s.v.Write(first+i, w))
	}
}

// fails asks that no call takes the directory, with so many names more, for one that may be.
func (s sound) fails(more int) func() {
	return func() {
		s.t.Helper()
		c := s.c
		c.Size += more
		allFail(s.t, s.v, c, api.ErrCorrupt)
	}
}

// holds asks that the directory, with so many names more, is one that may be.
func (s sound) holds(more int) func() {
	return func() {
		s.t.Helper()
		c := s.c
		c.Size += more
		if l, e := folder.List(s.v, c); len(l) != c.Size || e != api.OK {
			s.t.Fatal(len(l), e)
		}
	}
}

// P11.1: maps that may not be: words of More that tell no block, or none at all, and card's places that no card has.
func TestMapsThatMayNotBe(t *testing.T) {
	for _, names := range []int{0, 42} {
		for _, w := range []uint64{97, 98, 256, 1 << 32, 1<<32 + 1, 1 << 63, greatest} {
			for i := range 16 {
				s := newSound(t)
				s.c.Size = names
				ok(t, s.v.Write(blocksAt+16*50+i, w))
				allFail(t, s.v, s.c, api.ErrCorrupt)
			}
		}
	}
	v := left(t, 9)
	c := fresh()
	c.More = 50
	allFail(t, v, c, api.ErrCorrupt)
	for _, block := range []int{-2, 96, 97, 1 << 32, math.MinInt, math.MaxInt} {
		c := fresh()
		c.More = block
		allFail(t, v, c, api.ErrCorrupt)
		for i := range 5 {
			c := fresh()
			c.Direct[i] = block
			allFail(t, v, c, api.ErrCorrupt)
		}
	}
}

// P11.1: an entry whose number is 0, and whose other words are not, each of them, of each entry that is empty; and one that has lost its number.
func TestEmptyEntriesThatAreNot(t *testing.T) {
	s := newSound(t)
	for place := range 21 {
		for _, at := range []int{3, 6, 12} {
			for _, w := range []uint64{1, 'a', 1 << 63, greatest} {
				s.put(place, at+1, []uint64{w}, s.fails(0))
				s.put(place, at+2, []uint64{w}, s.fails(0))
			}
			s.put(place, at, []uint64{1}, s.fails(0))
			s.put(place, at, []uint64{1}, s.fails(1))
		}
		for _, at := range []int{0, 9} {
			s.put(place, at, []uint64{0}, s.fails(0))
			s.put(place, at, []uint64{0}, s.fails(-1))
			s.put(place, at, []uint64{0, 0, 0}, s.holds(-1))
			s.put(place, at, []uint64{0, 0, 0}, s.fails(0))
		}
	}
}

// P11.1: numbers of names at their edges, and above 23.
func TestNumbersAbove(t *testing.T) {
	s := newSound(t)
	for place := range 21 {
		for _, at := range []int{0, 9} {
			for _, w := range []uint64{1, 2, 22, 23} {
				s.put(place, at, []uint64{w}, s.holds(0))
			}
			for _, w := range []uint64{24, 25, 32, 255, 256, 257, 1 << 32, 1<<32 + 1, 1 << 63, 1<<63 + 1, greatest} {
				s.put(place, at, []uint64{w}, s.fails(0))
				s.put(place, at, []uint64{w}, s.fails(-1))
				s.put(place, at, []uint64{w, 0, 0}, s.fails(0))
				s.put(place, at, []uint64{w, 0, 0}, s.fails(-1))
			}
		}
	}
}

// P11.1: a last word that is not 0, of each block; of one that is empty of names, too.
func TestLastWords(t *testing.T) {
	s := newSound(t)
	for place := range 21 {
		for _, w := range []uint64{1, 'a', 1 << 32, 1 << 63, greatest} {
			s.put(place, 15, []uint64{w}, s.fails(0))
		}
		v := left(t, 9)
		c := withMap(t, v, 0, 50, map[int]int{place: 40})
		lists(t, v, c)
		ok(t, v.Write(blocksAt+16*40+15, 1))
		allFail(t, v, c, api.ErrCorrupt)
	}
}

// P11.1: names that may not be, in each bucket, so that no other rule tells it: without a byte, with signs, too long, and with words behind their end.
func TestEntriesWhoseNamesMayNotBe(t *testing.T) {
	s := newSound(t)
	for _, name := range badNames() {
		if len(name) > 16 || len(name) > 1 && len(name) < 16 && strings.HasSuffix(name, "\x00") {
			continue
		}
		if name == "\x00" {
			name = ""
		}
		for place := range 21 {
			s.put(place, 3, append([]uint64{5}, textOf(name)...), s.fails(1))
			s.put(place, 3, append([]uint64{5}, textOf(name)...), s.fails(0))
		}
	}
	for place := range 21 {
		name := namesOf(place%8, 9)[8]
		s.put(place, 3, append([]uint64{5}, textOf(name)...), s.holds(1))
		for _, w := range []uint64{1, 'a', 1 << 8, 1 << 48, 1 << 63} {
			s.put(place, 3, []uint64{5, textOf(name)[0], w}, s.fails(1))
		}
		s.put(place, 3, []uint64{5, textOf(name)[0] | 'a'<<56, 0}, s.fails(1))
	}
}

// P11.1: a name in each place that isn't one of its bucket's.
func TestNamesInOtherBuckets(t *testing.T) {
	s := newSound(t)
	for bucket := range 8 {
		name := namesOf(bucket, 9)[8]
		for place := range 21 {
			ask := s.fails(1)
			if place%8 == bucket {
				ask = s.holds(1)
			}
			for _, at := range []int{3, 6, 12} {
				s.put(place, at, append([]uint64{5}, textOf(name)...), ask)
			}
		}
	}
}

// P11.1: a name twice: in one block and in two of its bucket, with the same number and with another one, counted once and twice.
func TestNamesTwice(t *testing.T) {
	s := newSound(t)
	for place := range 21 {
		l := namesOf(place%8, 6)
		for i := range 2 * len(placesOf(place%8)) {
			had := []int{i/2*8 + place%8 + 1, 23}[i%2]
			for _, number := range []int{1, had, 23} {
				for _, at := range []int{3, 12} {
					words := append([]uint64{uint64(number)}, textOf(l[i])...)
					s.put(place, at, words, s.fails(1))
					s.put(place, at, words, s.fails(0))
				}
			}
		}
	}
}

// P11.1: a Size that isn't how many names there are.
func TestSizes(t *testing.T) {
	s := newSound(t)
	s.holds(0)()
	for _, n := range []int{-42, -41, -2, -1, 1, 2, 63, 2688 - 42, -43, -84, 1 << 32, math.MinInt, math.MaxInt - 42} {
		s.fails(n)()
	}
	v := empty(t)
	for _, n := range []int{-1, 1, 2, 105, 2688, 1 << 32, math.MinInt, math.MaxInt} {
		c := fresh()
		c.Size = n
		allFail(t, v, c, api.ErrCorrupt)
	}
	c := adds(t, v, 2, fresh(), "a", 3)
	for _, n := range []int{0, 2} {
		c.Size = n
		allFail(t, v, c, api.ErrCorrupt)
	}
}

// P11.1: one block in two places: its names stand in another bucket, or twice.
func TestABlockInTwoPlaces(t *testing.T) {
	for _, place := range []int{8, 9, 16, 20} {
		v := left(t, 9)
		ok(t, v.SetBlock(30, laid(numbered(1, namesOf(0, 2)...)...)))
		for _, names := range []int{2, 4} {
			c := withMap(t, v, names, 31, map[int]int{0: 30, place: 30})
			allFail(t, v, c, api.ErrCorrupt)
		}
	}
}

// P11.1, R1: a card of each other kind is no directory's, whether it could be one or not.
func TestOtherKinds(t *testing.T) {
	s := newSound(t)
	for _, kind := range []int{api.Free, api.File, api.Link, -1, 4, 255, 258, 1<<32 + 2, math.MinInt, math.MaxInt} {
		c := s.c
		c.Kind = kind
		allFail(t, s.v, c, api.ErrNotDir)
		c.Size = 7
		allFail(t, s.v, c, api.ErrNotDir)
		c.More = 96
		allFail(t, s.v, c, api.ErrNotDir)
	}
	allFail(t, s.v, api.Card{}, api.ErrNotDir)
}

// P11.1: the directory is read as the view has it: what another view's memory holds plays no part.
func TestTheViewsWordsCount(t *testing.T) {
	m := holding(nil)
	v := of(t, m)
	c := adds(t, v, 2, fresh(), "a", 3)
	allFail(t, of(t, m), c, api.ErrCorrupt)
	makes(t, m, v)
	lists(t, of(t, m), c, api.Entry{Name: "a", Node: 3})
	v.Reset()
	c = drops(t, v, 2, c, "a", 3)
	lists(t, v, c)
	allFail(t, of(t, m), c, api.ErrCorrupt)
}

// P11.1, R7, E0: no view: nil, and one that view.New didn't make; told ahead of all else.
func TestNoView(t *testing.T) {
	file := fresh()
	file.Kind = api.File
	for _, v := range []*view.View{nil, {}} {
		for _, c := range []api.Card{fresh(), file, {}, {Kind: api.Dir, Size: 3, More: 96}} {
			allFail(t, v, c, api.ErrArg)
			for _, n := range append(outside(24), 0, 1, 2, 23) {
				addFails(t, v, n, c, "a", n, api.ErrArg)
				dropFails(t, v, n, c, "a", api.ErrArg)
				clearFails(t, v, n, c, api.ErrArg)
			}
		}
	}
}

// E0: cards that may not be, at all other arguments: the calls end, and answer zero values beside an error.
func TestCardsThatMayNotBe(t *testing.T) {
	wild := []int{math.MinInt, -129, -2, -1, 0, 1, 2, 30, 31, 95, 96, 2688, 1 << 40, math.MaxInt}
	for _, a := range wild {
		for _, b := range wild {
			for _, c := range []api.Card{
				{Kind: api.Dir, Size: a, Direct: [5]int{b, -1, 4, b, a}, More: -1},
				{Kind: b, Links: a, Size: b, Direct: [5]int{-1, -1, -1, -1, -1}, More: a},
				{Kind: api.Dir, Size: 2, Direct: [5]int{30, 31, 31, 31, 31}, More: b},
				{Kind: api.Dir, Size: 0, Direct: [5]int{31, 31, 31, 31, 31}, More: a},
				{Kind: api.Dir, Size: 2, Direct: [5]int{30, -1, a, -1, b}, More: a},
			} {
				callAll(t, c, a, b)
			}
		}
	}
}

// callAll makes each call, with these numbers wherever one may stand, in views of their own.
func callAll(t *testing.T, c api.Card, a, b int) {
	t.Helper()
	anew := func() *view.View {
		v := left(t, 3)
		ok(t, v.SetBlock(30, laid(numbered(1, namesOf(0, 2)...)...)), v.SetBlock(1, []uint64{1, 96}), v.SetBlock(95, laid(api.Entry{Name: "a", Node: 96})))
		return v
	}
	l, e := folder.List(anew(), c)
	if e != api.OK && len(l) != 0 || e == api.OK && len(l) != c.Size {
		t.Fatal(l, e)
	}
	for _, name := range []string{namesOf(0, 1)[0], "a", ""} {
		n, found, e := folder.Find(anew(), c, name)
		if found != (n != 0) || found && e != api.OK {
			t.Fatal(n, found, e)
		}
		for _, node := range []int{a, b, 2} {
			x, e1 := folder.Add(anew(), node, c, name, b)
			y, n, e2 := folder.Drop(anew(), node, c, name)
			z, e3 := folder.Clear(anew(), node, c)
			if e1 != api.OK && x != (api.Card{}) || e2 != api.OK && (y != (api.Card{}) || n != 0) || e3 != api.OK && z != (api.Card{}) {
				t.Fatal(x, e1, y, n, e2, z, e3)
			}
		}
	}
}

// P11.1: whose the blocks are isn't asked by List, Find, Add and Drop: a map's places tell which blocks are the directory's.
func TestOwnersAreNotAsked(t *testing.T) {
	for _, owner := range []uint64{0, 1, 9, 25, greatest} {
		v := of(t, holding(map[int]uint64{ownersAt + 40: owner, ownersAt + 41: owner}))
		l := namesOf(9%8, 3)
		ok(t, v.SetBlock(40, laid(numbered(1, l[:2]...)...)))
		c := withMap(t, v, 2, 41, map[int]int{9: 40})
		c = adds(t, v, 2, c, l[2], 3)
		c = drops(t, v, 2, c, l[0], 1)
		want := numbered(2, l[1:]...)
		slices.Reverse(want)
		lists(t, v, c, want...)
		if v.Read(ownersAt+40) != owner || v.Read(ownersAt+41) != owner {
			t.Fatal("an owner is another one")
		}
	}
}
