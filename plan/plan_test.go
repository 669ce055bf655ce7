package plan_test

import (
	"math"
	"slices"
	"testing"

	"escritoire/api"
	"escritoire/plan"
)

const (
	size = 2824
	mark = 7021221306412823411
)

// part is the things of a kind as the chapter tells them: the first one's place, their words and how many there are.
type part struct {
	name               string
	kind               plan.Kind
	first, each, count int
	call               func(int) (int, api.Errno)
	open               bool
}

// parts is all of them but the head.
func parts() []part {
	return []part{
		{"Card", plan.Cards, 8, 8, 24, plan.Card, true},
		{"Owner", plan.Owners, 200, 1, 96, plan.Owner, true},
		{"Log", plan.Logs, 296, 248, 4, plan.Log, false},
		{"Block", plan.Data, 1288, 16, 96, plan.Block, true},
	}
}

// farInts is ints far off, those among them whose product with 8, 16 or 248, or whose sum with a place, wraps round.
func farInts() []int {
	l := []int{
		math.MinInt, math.MinInt + 1, math.MinInt + 7, math.MinInt + 8, math.MinInt + size, math.MinInt / 2, math.MinInt / 8, math.MinInt / 16,
		math.MinInt32, math.MaxInt32, math.MaxInt32 + 1, 1 << 32, 1<<32 + 8, 1 << 59, 1 << 60, 1<<60 + 1, 1 << 61, 1<<61 + 1, 1 << 62,
		math.MaxInt/248 + 1, math.MaxInt/16 + 1, math.MaxInt/8 + 1, math.MaxInt / 2, math.MaxInt - size, math.MaxInt - 8, math.MaxInt - 1, math.MaxInt,
	}
	for _, x := range slices.Clone(l) {
		if x != math.MinInt {
			l = append(l, -x)
		}
	}
	return l
}

// laidOut is so many words, of which the first are the head's and the others any.
func laidOut(n int) []uint64 {
	l := make([]uint64, n)
	for i := range l {
		l[i] = uint64(i) * 0x9e3779b97f4a7c15
	}
	copy(l, []uint64{mark, size, 0, 0, 0, 0, 0, 0})
	return l
}

// P5.1
func TestKindsAreNumbered(t *testing.T) {
	for want, kind := range []plan.Kind{plan.None, plan.Super, plan.Cards, plan.Owners, plan.Logs, plan.Data} {
		if int(kind) != want {
			t.Errorf("kind %d is %d", want, kind)
		}
	}
}

// P5.1
func TestSize(t *testing.T) {
	if n := plan.Size(); n != size {
		t.Errorf("Size: %d", n)
	}
}

// P5.1, R4: the head is the same again, with what was answered first changed in between.
func TestHead(t *testing.T) {
	want := []uint64{mark, size, 0, 0, 0, 0, 0, 0}
	l := plan.Head()
	if !slices.Equal(l, want) {
		t.Fatalf("Head: %d", l)
	}
	for i := range l {
		l[i] = ^l[i]
	}
	if again := plan.Head(); !slices.Equal(again, want) {
		t.Errorf("Head again: %d", again)
	}
	if !plan.Right(laidOut(size)) || plan.Right(append(l, make([]uint64, size-8)...)) {
		t.Error("Right changed with what Head answered")
	}
}

// P5.1: the head and as many words as there should be, of whatever values behind it.
func TestRight(t *testing.T) {
	if l := laidOut(size); !plan.Right(l) {
		t.Error("words that begin with the head aren't right")
	}
	if l := append(plan.Head(), make([]uint64, size-8)...); !plan.Right(l) {
		t.Error("the head and words 0 aren't right")
	}
	l := laidOut(size)
	for i := 8; i < size; i++ {
		l[i] = math.MaxUint64
	}
	if !plan.Right(l) {
		t.Error("the head and words of ones aren't right")
	}
}

// P5.1: the head alone, none, one fewer and one more among them; with more words behind those that are handed in, too.
func TestRightOfOtherLengths(t *testing.T) {
	if plan.Right(nil) || plan.Right([]uint64{}) || plan.Right(plan.Head()) {
		t.Error("none, or the head alone, are right")
	}
	long := laidOut(3 * size)
	for n := range long {
		if got := plan.Right(long[:n]); got != (n == size) {
			t.Errorf("%d words: %v", n, got)
		}
	}
	if plan.Right(laidOut(size-1)) || plan.Right(laidOut(size+1)) {
		t.Error("2823 or 2825 words are right")
	}
}

// P5.1: each bit of each of the head's words plays a part, and so does their order.
func TestRightOfOtherHeads(t *testing.T) {
	l := laidOut(size)
	for i := range 8 {
		for bit := range 64 {
			l[i] ^= 1 << bit
			if plan.Right(l) {
				t.Errorf("right with the bit %d of the word %d turned", bit, i)
			}
			l[i] ^= 1 << bit
		}
	}
	if !plan.Right(l) {
		t.Error("not right any more")
	}
	l[0], l[1] = l[1], l[0]
	if plan.Right(l) || plan.Right(make([]uint64, size)) {
		t.Error("right with the head's words exchanged, or with words 0 alone")
	}
}

// R4: Right leaves its words alone, and keeps none of them.
func TestRightChangesNothing(t *testing.T) {
	for _, n := range []int{0, 7, 8, size - 1, size, size + 1} {
		l := laidOut(n)
		before := slices.Clone(l)
		first := plan.Right(l)
		if !slices.Equal(l, before) || plan.Right(l) != first {
			t.Errorf("%d words changed", n)
		}
		clear(l)
		if plan.Right(l) || plan.Right(before) != (n == size) {
			t.Errorf("%d words were kept", n)
		}
	}
}

// P5.1: each thing's first word.
func TestFirstWords(t *testing.T) {
	for _, p := range parts() {
		for i := range p.count {
			if at, e := p.call(i); at != p.first+p.each*i || e != api.OK {
				t.Errorf("%s(%d): %d %d", p.name, i, at, e)
			}
		}
	}
}

// P5.1: the first and the last of each, by numbers.
func TestFirstWordsAtTheEdges(t *testing.T) {
	for _, x := range []struct {
		name     string
		call     func(int) (int, api.Errno)
		i, first int
	}{
		{"Card", plan.Card, 0, 8}, {"Card", plan.Card, 1, 16}, {"Card", plan.Card, 23, 192},
		{"Owner", plan.Owner, 0, 200}, {"Owner", plan.Owner, 8, 208}, {"Owner", plan.Owner, 95, 295},
		{"Log", plan.Log, 0, 296}, {"Log", plan.Log, 1, 544}, {"Log", plan.Log, 2, 792}, {"Log", plan.Log, 3, 1040},
		{"Block", plan.Block, 0, 1288}, {"Block", plan.Block, 1, 1304}, {"Block", plan.Block, 95, 2808},
	} {
		if at, e := x.call(x.i); at != x.first || e != api.OK {
			t.Errorf("%s(%d): %d %d, not %d", x.name, x.i, at, e, x.first)
		}
	}
}

// P5.1, E0, R2: one below 0, as many as there are, and ints far off.
func TestThingsThatAreNot(t *testing.T) {
	for _, p := range parts() {
		wrong := append(farInts(), -1, -2, -8, -p.count, -p.first, p.count, p.count+1, 2*p.count, 200, 1000, size)
		for _, i := range wrong {
			if at, e := p.call(i); at != 0 || e != api.ErrArg {
				t.Errorf("%s(%d): %d %d", p.name, i, at, e)
			}
		}
	}
}

// P5.1
func TestWhatAtTheEdges(t *testing.T) {
	for _, x := range []struct {
		at   int
		kind plan.Kind
		n    int
		open bool
	}{
		{-1, plan.None, 0, false}, {0, plan.Super, 0, false}, {1, plan.Super, 0, false}, {7, plan.Super, 0, false},
		{8, plan.Cards, 0, true}, {15, plan.Cards, 0, true}, {16, plan.Cards, 1, true}, {191, plan.Cards, 22, true}, {192, plan.Cards, 23, true}, {199, plan.Cards, 23, true},
		{200, plan.Owners, 0, true}, {201, plan.Owners, 1, true}, {208, plan.Owners, 8, true}, {295, plan.Owners, 95, true},
		{296, plan.Logs, 0, false}, {543, plan.Logs, 0, false}, {544, plan.Logs, 1, false}, {1039, plan.Logs, 2, false}, {1040, plan.Logs, 3, false}, {1287, plan.Logs, 3, false},
		{1288, plan.Data, 0, true}, {1303, plan.Data, 0, true}, {1304, plan.Data, 1, true}, {2807, plan.Data, 94, true}, {2808, plan.Data, 95, true}, {2823, plan.Data, 95, true},
		{2824, plan.None, 0, false}, {2825, plan.None, 0, false},
	} {
		if kind, n := plan.What(x.at); kind != x.kind || n != x.n {
			t.Errorf("What(%d): %d %d, not %d %d", x.at, kind, n, x.kind, x.n)
		}
		if open := plan.Open(x.at); open != x.open {
			t.Errorf("Open(%d): %v", x.at, open)
		}
	}
}

// P5.1, E0
func TestWordsThatAreNot(t *testing.T) {
	wrong := farInts()
	for i := range 3 * size {
		wrong = append(wrong, -1-i, size+i)
	}
	for _, at := range wrong {
		if kind, n := plan.What(at); kind != plan.None || n != 0 {
			t.Errorf("What(%d): %d %d", at, kind, n)
		}
		if plan.Open(at) {
			t.Errorf("Open(%d)", at)
		}
	}
}

// thing is one thing that words are part of.
type thing struct {
	kind plan.Kind
	n    int
}

// P5.2: the things, laid word by word where the calls say they begin, fill the memory, none over another; What and Open say the same of each word.
func TestEachWordIsPartOfOneThing(t *testing.T) {
	laid := make([][]thing, plan.Size())
	open := map[plan.Kind]bool{}
	for at := range plan.Head() {
		laid[at] = append(laid[at], thing{plan.Super, 0})
	}
	for _, p := range parts() {
		open[p.kind] = p.open
		for i := range p.count {
			first, e := p.call(i)
			if e != api.OK || first < 0 || first+p.each > len(laid) {
				t.Fatalf("%s(%d): %d %d", p.name, i, first, e)
			}
			for at := first; at < first+p.each; at++ {
				laid[at] = append(laid[at], thing{p.kind, i})
			}
		}
	}
	for at, l := range laid {
		kind, n := plan.What(at)
		if len(l) != 1 || l[0] != (thing{kind, n}) {
			t.Errorf("the word %d: %v, What: %d %d", at, l, kind, n)
		}
		if plan.Open(at) != open[kind] {
			t.Errorf("Open(%d): %v", at, !open[kind])
		}
	}
}

// P5.2: What, asked of each word, tells each thing, with as many words as it has, in one row.
func TestEachThingHasItsWords(t *testing.T) {
	var row []thing
	count := map[thing]int{}
	for at := range size {
		kind, n := plan.What(at)
		x := thing{kind, n}
		if len(row) == 0 || row[len(row)-1] != x {
			row = append(row, x)
		}
		count[x]++
	}
	want := []thing{{plan.Super, 0}}
	for _, p := range parts() {
		for i := range p.count {
			want = append(want, thing{p.kind, i})
			if got := count[thing{p.kind, i}]; got != p.each {
				t.Errorf("%s %d has %d words", p.name, i, got)
			}
		}
	}
	if !slices.Equal(row, want) || count[thing{plan.Super, 0}] != 8 {
		t.Errorf("the things in order: %v", row)
	}
}

// P5.1: the limits of api give the plan's size.
func TestLimitsGiveTheSize(t *testing.T) {
	if n := 8 + 8*api.Nodes + api.Blocks + api.Slots*(8+2*api.LogLen) + api.Blocks*api.Block; n != plan.Size() {
		t.Errorf("%d words", n)
	}
}

// P5.1: the chapter's examples.
func TestExamples(t *testing.T) {
	if kind, n := plan.What(208); kind != plan.Owners || n != 8 {
		t.Error(kind, n)
	}
	if at, e := plan.Block(1); at != 1304 || e != api.OK {
		t.Error(at, e)
	}
}
