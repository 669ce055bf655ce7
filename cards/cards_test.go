package cards_test

import (
	"fmt"
	"math"
	"slices"
	"testing"

	"escritoire/api"
	"escritoire/cards"
)

// maxSize is the most bytes that a file may have.
const maxSize = 2688

// ordinary is a file's card that may be, with another value in each of its parts.
func ordinary() api.Card {
	return api.Card{Kind: api.Dir, Links: 3, Size: 300, Version: 7, Direct: [5]int{0, -1, 95, 41, 12}, More: 66}
}

// none is the card of no file, written out.
func none(version uint64) api.Card {
	return api.Card{Version: version, Direct: [5]int{-1, -1, -1, -1, -1}, More: -1}
}

// part is one of a card's parts that are ints, and, of a file's card, the least and the most that it may be.
type part struct {
	name        string
	of          func(*api.Card) *int
	least, most int
}

// parts is all of them but Kind.
func parts() []part {
	l := []part{
		{"Links", func(c *api.Card) *int { return &c.Links }, 0, 255},
		{"Size", func(c *api.Card) *int { return &c.Size }, 0, maxSize},
	}
	for i := range 5 {
		l = append(l, part{fmt.Sprintf("Direct[%d]", i), func(c *api.Card) *int { return &c.Direct[i] }, -1, 95})
	}
	return append(l, part{"More", func(c *api.Card) *int { return &c.More }, -1, 95})
}

// farInts is ints far off, those among them whose lowest 8, 16 or 32 bits are a small number's.
func farInts() []int {
	l := []int{
		math.MinInt, math.MinInt + 1, math.MinInt + 2, math.MinInt32, math.MinInt16, math.MinInt8, -1 << 16, -1<<16 + 1, -1 << 32, -1<<32 + 1,
		1 << 16, 1<<16 - 1, 1<<16 + 1, 1<<24 + 1, 1 << 32, 1<<32 - 1, 1<<32 + 1, 1<<32 + 3, 1<<48 + 1, 1 << 56, 1 << 62,
		math.MaxInt32, math.MaxInt - 1, math.MaxInt,
	}
	return l
}

// mayBe says which cards may be, as the chapter tells it.
func mayBe(c api.Card) bool {
	all := append([]int{c.More}, c.Direct[:]...)
	if c.Kind == 0 {
		return c.Links == 0 && c.Size == 0 && !slices.ContainsFunc(all, func(b int) bool { return b != -1 })
	}
	if c.Kind < 1 || c.Kind > 3 || c.Links < 0 || c.Links > 255 || c.Size < 0 || c.Size > maxSize {
		return false
	}
	return slices.Min(all) >= -1 && slices.Max(all) <= 95
}

// asWords is a card's words as the chapter tells them.
func asWords(c api.Card) []uint64 {
	var d [5]uint64
	for i, b := range c.Direct {
		d[i] = uint64(b + 1)
	}
	return []uint64{
		uint64(c.Kind) | uint64(c.Links)<<8 | uint64(c.Size)<<24,
		c.Version,
		d[0] | d[1]<<16 | d[2]<<32 | d[3]<<48,
		d[4] | uint64(c.More+1)<<16,
		0, 0, 0, 0,
	}
}

// check holds all that the calls answer of a card against what the chapter says of it.
func check(t *testing.T, c api.Card) {
	t.Helper()
	may := mayBe(c)
	if got := cards.Right(c); got != may {
		t.Errorf("Right(%v): %v", c, got)
	}
	l, e := cards.Write(c)
	if !may {
		if e != api.ErrArg || len(l) != 0 {
			t.Errorf("Write(%v): %d %d", c, l, e)
		}
		return
	}
	if e != api.OK || !slices.Equal(l, asWords(c)) {
		t.Errorf("Write(%v): %d %d", c, l, e)
	}
	if d, e := cards.Read(l); e != api.OK || d != c {
		t.Errorf("Read of %v's: %v %d", c, d, e)
	}
}

// corrupt tells words that must be no card's.
func corrupt(t *testing.T, l []uint64) {
	t.Helper()
	if c, e := cards.Read(l); e != api.ErrCorrupt || c != (api.Card{}) {
		t.Errorf("Read(%x): %v %d", l, c, e)
	}
}

// P6.1: ordinary cards, their words written out.
func TestWrite(t *testing.T) {
	for _, x := range []struct {
		c api.Card
		l []uint64
	}{
		{api.Card{Kind: api.File, Links: 1, Version: 9, Direct: [5]int{-1, -1, -1, -1, -1}, More: -1}, []uint64{257, 9, 0, 0, 0, 0, 0, 0}},
		{api.Card{Kind: api.File}, []uint64{1, 0, 0x0001000100010001, 0x00010001, 0, 0, 0, 0}},
		{ordinary(), []uint64{0x000000012c000302, 7, 0x002a006000000001, 0x0043000d, 0, 0, 0, 0}},
		{api.Card{Kind: api.Link, Links: 255, Size: maxSize, Version: math.MaxUint64, Direct: [5]int{95, 95, 95, 95, 95}, More: 95}, []uint64{0x00000a8000ff03, math.MaxUint64, 0x0060006000600060, 0x00600060, 0, 0, 0, 0}},
		{none(5), []uint64{0, 5, 0, 0, 0, 0, 0, 0}},
	} {
		if l, e := cards.Write(x.c); e != api.OK || !slices.Equal(l, x.l) {
			t.Errorf("Write(%v): %x %d", x.c, l, e)
		}
		if c, e := cards.Read(x.l); e != api.OK || c != x.c {
			t.Errorf("Read(%x): %v %d", x.l, c, e)
		}
		check(t, x.c)
	}
}

// P6.1, R2, E0: each kind, one below and one above them, and kinds whose lowest bits are another one's.
func TestKinds(t *testing.T) {
	kinds := append(farInts(), -2, -1, 0, 1, 2, 3, 4, 5, 127, 128, 255, 256, 257, 258, 259)
	for _, k := range kinds {
		c := ordinary()
		c.Kind = k
		check(t, c)
		d := none(4)
		d.Kind = k
		check(t, d)
		d.Links = 1
		check(t, d)
		if is := k >= 1 && k <= 3; cards.Right(c) != is || cards.Right(d) != is {
			t.Errorf("kind %d: %v %v", k, cards.Right(c), cards.Right(d))
		}
	}
	if !cards.Right(none(4)) {
		t.Error("the card of no file may not be")
	}
}

// P6.1, P6.2, R2, E0: each part at its edges and far off them, of files of each kind.
func TestPartsAtTheEdges(t *testing.T) {
	for _, kind := range []int{api.File, api.Dir, api.Link} {
		for _, p := range parts() {
			tries := append(farInts(), p.least-2, p.least-1, p.least, p.least+1, 0, 1, p.most-1, p.most, p.most+1, p.most+2)
			for _, n := range tries {
				c := ordinary()
				c.Kind = kind
				*p.of(&c) = n
				check(t, c)
				if got := cards.Right(c); got != (n >= p.least && n <= p.most) {
					t.Errorf("%s %d of kind %d: %v", p.name, n, kind, got)
				}
			}
		}
	}
}

// P6.1: the edges by numbers.
func TestRightByNumbers(t *testing.T) {
	for _, x := range []struct {
		name string
		tell map[int]bool
	}{
		{"Links", map[int]bool{-1: false, 0: true, 255: true, 256: false, math.MinInt: false, math.MaxInt: false}},
		{"Size", map[int]bool{-1: false, 0: true, 2688: true, 2689: false, math.MinInt: false, math.MaxInt: false}},
		{"block", map[int]bool{-2: false, -1: true, 0: true, 95: true, 96: false, math.MinInt: false, math.MaxInt: false}},
	} {
		for _, p := range parts() {
			if p.name != x.name && (x.name != "block" || p.name == "Links" || p.name == "Size") {
				continue
			}
			for n, want := range x.tell {
				c := ordinary()
				*p.of(&c) = n
				if got := cards.Right(c); got != want {
					t.Errorf("%s %d: %v", p.name, n, got)
				}
			}
		}
	}
}

// P6.1, P6.2: no Version makes a card another one.
func TestVersions(t *testing.T) {
	for _, v := range []uint64{0, 1, 255, 256, math.MaxInt64, math.MaxInt64 + 1, math.MaxUint64 - 1, math.MaxUint64} {
		c := ordinary()
		c.Version = v
		check(t, c)
		check(t, none(v))
		if !cards.Right(c) || !cards.Right(none(v)) {
			t.Errorf("Version %d may not be", v)
		}
		if got := cards.None(v); got != none(v) {
			t.Errorf("None(%d): %v", v, got)
		}
		if l, e := cards.Write(none(v)); e != api.OK || !slices.Equal(l, []uint64{0, v, 0, 0, 0, 0, 0, 0}) {
			t.Errorf("Write of none, %d: %x %d", v, l, e)
		}
	}
}

// P6.1, R2: of no file's card each part but Version is what it is.
func TestNoFileHasNothing(t *testing.T) {
	for _, p := range parts() {
		is := *p.of(&api.Card{Direct: [5]int{-1, -1, -1, -1, -1}, More: -1})
		for _, n := range append(farInts(), -2, -1, 0, 1, 2, 3, 95, 96, 255, 256, maxSize) {
			c := none(6)
			*p.of(&c) = n
			check(t, c)
			if got := cards.Right(c); got != (n == is) {
				t.Errorf("%s %d of no file's: %v", p.name, n, got)
			}
		}
	}
	if cards.Right(api.Card{}) {
		t.Error("blocks 0 of no file's")
	}
}

// P6.1, P6.2: any two parts at once, at values within and without.
func TestTwoPartsAtOnce(t *testing.T) {
	for _, kind := range []int{-1, 0, 1, 2, 3, 4} {
		for i, p := range parts() {
			for _, q := range parts()[i+1:] {
				for _, n := range []int{p.least - 1, p.least, p.most, p.most + 1} {
					for _, m := range []int{q.least - 1, q.least, q.most, q.most + 1} {
						c := api.Card{Kind: kind, Direct: [5]int{-1, -1, -1, -1, -1}, More: -1}
						*p.of(&c), *q.of(&c) = n, m
						check(t, c)
					}
				}
			}
		}
	}
}

// P6.2: each value of each part, written and read.
func TestEachValueIsReadAgain(t *testing.T) {
	for _, p := range parts() {
		for n := p.least; n <= p.most; n++ {
			c := ordinary()
			*p.of(&c) = n
			check(t, c)
		}
	}
}

// P6.1, R2: none, 7, 9 and other numbers of words, with more of them behind those that are handed in, too.
func TestReadOfOtherLengths(t *testing.T) {
	corrupt(t, nil)
	corrupt(t, []uint64{})
	for _, c := range []api.Card{ordinary(), none(0), none(3)} {
		long := append(asWords(c), make([]uint64, 100)...)
		for n := range long {
			if n != 8 {
				corrupt(t, long[:n])
				corrupt(t, slices.Clone(long[:n]))
			}
		}
		if d, e := cards.Read(long[:8]); e != api.OK || d != c {
			t.Errorf("Read of 8 words: %v %d", d, e)
		}
	}
}

// P6.1: eight words 0 are the card of no file.
func TestReadOfNone(t *testing.T) {
	if c, e := cards.Read(make([]uint64, 8)); e != api.OK || c != none(0) {
		t.Errorf("Read of words 0: %v %d", c, e)
	}
	if c, e := cards.Read([]uint64{0, math.MaxUint64, 0, 0, 0, 0, 0, 0}); e != api.OK || c != none(math.MaxUint64) {
		t.Errorf("Read of none: %v %d", c, e)
	}
}

// P6.1, R2: fields that are too great, and what no file may have.
func TestReadOfWrongFields(t *testing.T) {
	for _, l := range [][]uint64{
		{4, 0, 0, 0, 0, 0, 0, 0},
		{255, 0, 0, 0, 0, 0, 0, 0},
		{1 | 256<<8, 0, 0, 0, 0, 0, 0, 0},
		{1 | 65535<<8, 0, 0, 0, 0, 0, 0, 0},
		{1 | 2689<<24, 0, 0, 0, 0, 0, 0, 0},
		{1 | math.MaxUint32<<24, 0, 0, 0, 0, 0, 0, 0},
		{1 | 1<<31<<24, 0, 0, 0, 0, 0, 0, 0},
		{1, 0, 97, 0, 0, 0, 0, 0},
		{1, 0, 97 << 16, 0, 0, 0, 0, 0},
		{1, 0, 97 << 32, 0, 0, 0, 0, 0},
		{1, 0, 97 << 48, 0, 0, 0, 0, 0},
		{1, 0, 65535 << 48, 0, 0, 0, 0, 0},
		{1, 0, 0, 97, 0, 0, 0, 0},
		{1, 0, 0, 97 << 16, 0, 0, 0, 0},
		{1, 0, 0, 65535 << 16, 0, 0, 0, 0},
		{0 | 1<<8, 0, 0, 0, 0, 0, 0, 0},
		{0 | 1<<24, 0, 0, 0, 0, 0, 0, 0},
		{0, 0, 1, 0, 0, 0, 0, 0},
		{0, 0, 1 << 48, 0, 0, 0, 0, 0},
		{0, 0, 0, 1, 0, 0, 0, 0},
		{0, 0, 0, 1 << 16, 0, 0, 0, 0},
		{math.MaxUint64, math.MaxUint64, math.MaxUint64, math.MaxUint64, math.MaxUint64, math.MaxUint64, math.MaxUint64, math.MaxUint64},
	} {
		corrupt(t, l)
	}
}

// P6.1, R2: bits that no card has: the first word's highest 8, the fourth one's highest 32, and the last four words'.
func TestReadOfBitsThatNoCardHas(t *testing.T) {
	for _, c := range []api.Card{ordinary(), none(0), none(2), {Kind: api.File}} {
		for i, from := range []int{56, 64, 64, 32, 0, 0, 0, 0} {
			for bit := from; bit < 64; bit++ {
				l := asWords(c)
				l[i] |= 1 << bit
				corrupt(t, l)
			}
		}
		for i := 4; i < 8; i++ {
			for _, v := range []uint64{1, 2, 257, math.MaxUint64} {
				l := asWords(c)
				l[i] = v
				corrupt(t, l)
			}
		}
	}
}

// readBack holds what is read of words against the card that the fields say, by the chapter.
func readBack(t *testing.T, l []uint64) {
	t.Helper()
	c := api.Card{Kind: int(l[0] & 0xff), Links: int(l[0] >> 8 & 0xffff), Size: int(l[0] >> 24 & 0xffffffff), Version: l[1], More: int(l[3]>>16&0xffff) - 1}
	for i := range 5 {
		c.Direct[i] = int(l[2+i/4]>>(i%4*16)&0xffff) - 1
	}
	if !mayBe(c) || !slices.Equal(asWords(c), l) {
		corrupt(t, l)
		return
	}
	d, e := cards.Read(l)
	if e != api.OK || d != c || !cards.Right(d) {
		t.Errorf("Read(%x): %v %d", l, d, e)
	}
	if again, e := cards.Write(d); e != api.OK || !slices.Equal(again, l) {
		t.Errorf("Write of what Read(%x) answered: %x %d", l, again, e)
	}
}

// P6.2: with each bit of each word turned, and any two bits of a word.
func TestBitsTurned(t *testing.T) {
	for _, c := range []api.Card{ordinary(), none(0), none(math.MaxUint64), {Kind: api.Link, Links: 255, Size: maxSize, Direct: [5]int{95, 95, 95, 95, 95}, More: 95}} {
		for i := range 8 {
			for a := range 64 {
				for b := range 64 {
					l := asWords(c)
					l[i] = l[i] ^ 1<<a ^ 1<<b
					readBack(t, l)
					l[i] ^= 1 << b
					readBack(t, l)
				}
			}
		}
	}
}

// P6.2: words put together of fields within and without, of all kinds.
func TestWordsOfManyFields(t *testing.T) {
	seed := uint64(1)
	next := func(n uint64) uint64 {
		seed = seed*6364136223846793005 + 1442695040888963407
		return seed >> 33 % n
	}
	read := 0
	for range 200000 {
		blocks := next(40)/39 + 97 // a block too many seldom, so that many are cards
		l := []uint64{next(5) | next(258)<<8 | next(2700)<<24, next(1 << 31), 0, 0, next(50) / 49, 0, 0, next(50) / 49}
		for i := range uint64(6) {
			l[2+i/4] |= next(blocks) << (i % 4 * 16)
		}
		readBack(t, l)
		if _, e := cards.Read(l); e == api.OK {
			read++
		}
	}
	if read < 1000 {
		t.Errorf("only %d were cards", read)
	}
}

// P6.2, R4: what Write answered first is changed in between two calls.
func TestWriteAnswersNewMemory(t *testing.T) {
	for _, c := range []api.Card{ordinary(), none(0)} {
		first, _ := cards.Write(c)
		second, _ := cards.Write(c)
		for i := range first {
			first[i] = math.MaxUint64
		}
		first = append(first[:0], 1, 2, 3)
		third, e := cards.Write(c)
		if want := asWords(c); e != api.OK || !slices.Equal(second, want) || !slices.Equal(third, want) {
			t.Errorf("Write again of %v: %x %x %d, beside %x", c, second, third, e, first)
		}
	}
}

// R4, R6: Read leaves its words alone and keeps none of them; of the same ones it answers the same.
func TestReadChangesNothing(t *testing.T) {
	wrong := asWords(ordinary())
	wrong[7] = 1
	for _, l := range [][]uint64{asWords(ordinary()), asWords(none(3)), wrong, make([]uint64, 9)} {
		before := slices.Clone(l)
		c, e := cards.Read(l)
		if !slices.Equal(l, before) {
			t.Errorf("Read changed %x to %x", before, l)
		}
		for i := range l {
			l[i] = math.MaxUint64
		}
		corrupt(t, l)
		if d, f := cards.Read(before); d != c || f != e {
			t.Errorf("Read again of %x: %v %d, not %v %d", before, d, f, c, e)
		}
	}
}

// P6.1, R2, E0
func TestFresh(t *testing.T) {
	for _, v := range []uint64{0, 1, 9, math.MaxUint64} {
		for _, k := range append(farInts(), -2, -1, 0, 1, 2, 3, 4, 5, 255, 256, 257, 258, 259) {
			c, e := cards.Fresh(k, v)
			if k < api.File || k > api.Link {
				if e != api.ErrArg || c != (api.Card{}) {
					t.Errorf("Fresh(%d, %d): %v %d", k, v, c, e)
				}
				continue
			}
			if e != api.OK || c != (api.Card{Kind: k, Links: 1, Version: v, Direct: [5]int{-1, -1, -1, -1, -1}, More: -1}) {
				t.Errorf("Fresh(%d, %d): %v %d", k, v, c, e)
			}
			check(t, c)
		}
	}
}

// P6.1: the chapter's example.
func TestExamples(t *testing.T) {
	c, _ := cards.Fresh(api.File, 11)
	if l, e := cards.Write(c); e != api.OK || !slices.Equal(l, []uint64{257, 11, 0, 0, 0, 0, 0, 0}) {
		t.Error(l, e)
	}
}
