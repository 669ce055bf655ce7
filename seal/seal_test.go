package seal_test

import (
	"math"
	"math/rand"
	"slices"
	"testing"

	"escritoire/api"
	"escritoire/memory"
	"escritoire/plan"
	"escritoire/seal"
)

const (
	size   = 2824
	logsAt = 296
	logLen = 248
)

// store, flush and fence are steps as the chapter tells them.
func store(at int, v uint64) seal.Step { return seal.Step{Kind: 1, At: at, V: v} }
func flush(at int) seal.Step           { return seal.Step{Kind: 2, At: at} }
func fence() seal.Step                 { return seal.Step{Kind: 3} }

// openWords is all words that a change may name, in order.
func openWords() []int {
	var l []int
	for at := 8; at < size; at++ {
		if at < logsAt || at >= logsAt+4*logLen {
			l = append(l, at)
		}
	}
	return l
}

// wrongWords is words that no change may name: the head's, the logs', and those that there are not.
func wrongWords() []int {
	return []int{
		0, 1, 2, 7, 296, 297, 298, 303, 304, 305, 543, 544, 791, 792, 1039, 1040, 1286, 1287,
		-1, -2, -8, -1288, 2824, 2825, 2832, 4096, 1 << 32, 1<<32 + 8, math.MinInt, math.MinInt + 8, math.MaxInt - 7, math.MaxInt,
	}
}

// many is n changes of words that lie far apart and in no order, each once.
func many(n int) []api.Change {
	open := openWords()
	var c []api.Change
	for i := range n {
		c = append(c, api.Change{At: open[(i+1)*769%len(open)], V: uint64(i+1) * 0x9e3779b97f4a7c15})
	}
	return c
}

// inRow is n changes of words that lie side by side.
func inRow(first, n int) []api.Change {
	var c []api.Change
	for i := range n {
		c = append(c, api.Change{At: first + i, V: uint64(i + 1)})
	}
	return c
}

// laidOut is an image of the plan whose cards, owners and blocks hold any words, and whose logs are 0.
func laidOut() []uint64 {
	l := make([]uint64, size)
	copy(l, []uint64{7021221306412823411, 2824})
	for _, at := range openWords() {
		l[at] = uint64(at) << 32
	}
	return l
}

// writeLog lays a log of an image out: what its status and count say, and its changes.
func writeLog(image []uint64, slot int, status, count uint64, c ...api.Change) {
	log := image[logsAt+logLen*slot:]
	log[0], log[1] = status, count
	for i, x := range c {
		log[8+2*i], log[9+2*i] = uint64(x.At), x.V
	}
}

// flushes is a flush of the first word of each line that holds one of the words.
func flushes(words []int) []seal.Step {
	var l []seal.Step
	for first := 0; first < size; first += 8 {
		if slices.ContainsFunc(words, func(at int) bool { return at/8*8 == first }) {
			l = append(l, flush(first))
		}
	}
	return l
}

// plainSealing is the steps up to the seal, written out from the chapter's words.
func plainSealing(slot int, number uint64, c []api.Change) []seal.Step {
	log := logsAt + logLen*slot
	l := []seal.Step{store(log+1, uint64(len(c)))}
	words := []int{log + 1}
	for i, x := range c {
		l = append(l, store(log+8+2*i, uint64(x.At)), store(log+9+2*i, x.V))
		words = append(words, log+8+2*i, log+9+2*i)
	}
	l = append(append(l, flushes(words)...), fence())
	return append(l, store(log, number), flush(log), fence())
}

// plainMaking is the steps behind the seal, written out from the chapter's words.
func plainMaking(slot int, c []api.Change) []seal.Step {
	log := logsAt + logLen*slot
	var l []seal.Step
	var words []int
	for _, x := range c {
		l = append(l, store(x.At, x.V))
		words = append(words, x.At)
	}
	l = append(append(l, flushes(words)...), fence())
	return append(l, store(log, 0), flush(log), fence())
}

// stepsAre asks that Steps answers just these, sealed behind so many.
func stepsAre(t *testing.T, slot int, number uint64, c []api.Change, sealed int, want ...seal.Step) {
	t.Helper()
	l, n, e := seal.Steps(slot, number, c)
	if !slices.Equal(l, want) || n != sealed || e != api.OK {
		t.Fatalf("Steps(%d, %d, %v):\n%v %d %d, not\n%v %d", slot, number, c, l, n, e, want, sealed)
	}
}

// refused asks that Steps answers an error, and nothing beside it.
func refused(t *testing.T, slot int, number uint64, c []api.Change, want api.Errno) {
	t.Helper()
	if l, n, e := seal.Steps(slot, number, c); len(l) != 0 || n != 0 || e != want {
		t.Errorf("Steps(%d, %d, %d changes): %d steps, %d, %d, not %d", slot, number, len(c), len(l), n, e, want)
	}
}

// P7.1
func TestKindsAreNumbered(t *testing.T) {
	if seal.Store != 1 || seal.Flush != 2 || seal.Fence != 3 {
		t.Error(seal.Store, seal.Flush, seal.Fence)
	}
}

// P7.1: one change, each step written out; the chapter's example.
func TestStepsOfOneChange(t *testing.T) {
	stepsAre(t, 0, 5, []api.Change{{At: 8, V: 7}}, 9,
		store(297, 1), store(304, 8), store(305, 7), flush(296), flush(304), fence(),
		store(296, 5), flush(296), fence(),
		store(8, 7), flush(8), fence(), store(296, 0), flush(296), fence())
	stepsAre(t, 3, math.MaxUint64, []api.Change{{At: 2823, V: 0}}, 9,
		store(1041, 1), store(1048, 2823), store(1049, 0), flush(1040), flush(1048), fence(),
		store(1040, math.MaxUint64), flush(1040), fence(),
		store(2823, 0), flush(2816), fence(), store(1040, 0), flush(1040), fence())
}

// P7.1: changes are stored in their order, lines flushed in order of lines, each once.
func TestStepsOfSomeChanges(t *testing.T) {
	c := []api.Change{{At: 1300, V: 1}, {At: 15, V: math.MaxUint64}, {At: 1296, V: 3}, {At: 8, V: 4}, {At: 295, V: 5}}
	stepsAre(t, 1, 2, c, 18,
		store(545, 5), store(552, 1300), store(553, 1), store(554, 15), store(555, math.MaxUint64), store(556, 1296), store(557, 3),
		store(558, 8), store(559, 4), store(560, 295), store(561, 5), flush(544), flush(552), flush(560), fence(),
		store(544, 2), flush(544), fence(),
		store(1300, 1), store(15, math.MaxUint64), store(1296, 3), store(8, 4), store(295, 5), flush(8), flush(288), flush(1296), fence(),
		store(544, 0), flush(544), fence())
}

// P7.1: a line of a log holds four changes.
func TestStepsAtTheLinesOfALog(t *testing.T) {
	for _, x := range [][2]int{{1, 1}, {3, 1}, {4, 1}, {5, 2}, {8, 2}, {9, 3}, {116, 29}, {117, 30}, {120, 30}} {
		l, sealed, e := seal.Steps(2, 1, many(x[0]))
		if want := 1 + 2*x[0] + 1 + x[1] + 1 + 3; sealed != want || e != api.OK || l[sealed-3] != store(792, 1) || l[sealed-1] != fence() {
			t.Errorf("%d changes: %d up to the seal, not %d", x[0], sealed, want)
		}
	}
}

// P7.1: as many changes as there may be, in each slot, held against the chapter's words.
func TestStepsAgainstAPlainRow(t *testing.T) {
	for _, n := range []int{1, 2, 3, 4, 5, 7, 8, 9, 16, 64, 119, 120} {
		for slot, number := range []uint64{1, 2, 1 << 63, math.MaxUint64} {
			for _, c := range [][]api.Change{many(n), inRow(8, n), inRow(1288, n), inRow(size-n, n), inRow(13, n)} {
				sealing := plainSealing(slot, number, c)
				stepsAre(t, slot, number, c, len(sealing), append(sealing, plainMaking(slot, c)...)...)
			}
		}
	}
}

// P7.1: no change has no steps; the errors are told nonetheless.
func TestStepsOfNoChange(t *testing.T) {
	for slot := range 4 {
		for _, c := range [][]api.Change{nil, {}} {
			refused(t, slot, 1, c, api.OK)
			refused(t, slot, math.MaxUint64, c, api.OK)
			refused(t, slot, 0, c, api.ErrArg)
		}
	}
	refused(t, 4, 1, nil, api.ErrArg)
	refused(t, -1, 1, nil, api.ErrArg)
}

// P7.1, E0: slots that there are not, and the number 0; both come ahead of what is wrong with the changes (R1).
func TestStepsOfWrongSlotsAndNumbers(t *testing.T) {
	for _, c := range [][]api.Change{nil, many(1), many(120), many(121), {{At: 7}}, {{At: 8}, {At: 8}}} {
		for _, slot := range []int{-1, -4, 4, 5, 8, 1 << 32, math.MinInt, math.MaxInt, math.MinInt / 8, math.MaxInt/248 + 1} {
			refused(t, slot, 1, c, api.ErrArg)
			refused(t, slot, 0, c, api.ErrArg)
		}
		for slot := range 4 {
			refused(t, slot, 0, c, api.ErrArg)
		}
	}
}

// rightIs asks that Right answers so, and Steps of each slot too.
func rightIs(t *testing.T, c []api.Change, want api.Errno) {
	t.Helper()
	if e := seal.Right(c); e != want {
		t.Errorf("Right of %d changes: %d, not %d", len(c), e, want)
	}
	for slot := range 4 {
		l, _, e := seal.Steps(slot, 1, c)
		if e != want || (len(l) > 0) != (want == api.OK && len(c) > 0) {
			t.Errorf("Steps of %d changes: %d steps, %d, not %d", len(c), len(l), e, want)
		}
	}
}

// P7.1
func TestRightByHowMany(t *testing.T) {
	for _, x := range []struct {
		n int
		e api.Errno
	}{{0, api.OK}, {1, api.OK}, {2, api.OK}, {119, api.OK}, {120, api.OK}, {121, api.ErrLog}, {122, api.ErrLog}, {240, api.ErrLog}, {1000, api.ErrLog}} {
		rightIs(t, many(x.n), x.e)
		rightIs(t, inRow(1288, x.n), x.e)
	}
	rightIs(t, nil, api.OK)
}

// P7.1: each word that a change may name, and those at the edges by their numbers.
func TestRightByWords(t *testing.T) {
	for _, at := range []int{8, 199, 200, 295, 1288, 2823} {
		rightIs(t, []api.Change{{At: at}}, api.OK)
	}
	for at := -20; at < size+20; at++ {
		want := api.ErrArg
		if plan.Open(at) {
			want = api.OK
		}
		if e := seal.Right([]api.Change{{At: at, V: 1}}); e != want {
			t.Errorf("Right of the word %d: %d, not %d", at, e, want)
		}
	}
}

// P7.1, E0: one wrong word, first, last or in the middle of others that may be.
func TestRightOfWrongWords(t *testing.T) {
	for _, at := range wrongWords() {
		rightIs(t, []api.Change{{At: at, V: 8}}, api.ErrArg)
		for _, i := range []int{0, 1, 60, 119} {
			c := many(120)
			c[i].At = at
			rightIs(t, c, api.ErrArg)
		}
	}
}

// P7.1: one word twice, side by side and far apart, with one value or two.
func TestRightOfAWordNamedTwice(t *testing.T) {
	for _, x := range [][2]int{{0, 1}, {0, 119}, {118, 119}, {1, 60}, {59, 60}} {
		c := many(120)
		c[x[1]].At = c[x[0]].At
		rightIs(t, c, api.ErrArg)
		c[x[1]].V = c[x[0]].V
		rightIs(t, c, api.ErrArg)
	}
	rightIs(t, []api.Change{{At: 8, V: 1}, {At: 8, V: 1}}, api.ErrArg)
	rightIs(t, []api.Change{{At: 2823, V: 1}, {At: 8, V: 1}, {At: 2823, V: 2}}, api.ErrArg)
	rightIs(t, []api.Change{{At: 8, V: 1}, {At: 9, V: 1}}, api.OK)
}

// P7.1, R1: too many comes ahead of what may not be.
func TestRightOfTooManyThatMayNotBe(t *testing.T) {
	rightIs(t, make([]api.Change, 121), api.ErrLog)
	rightIs(t, make([]api.Change, 120), api.ErrArg)
	for _, at := range wrongWords() {
		c := many(121)
		c[0].At = at
		rightIs(t, c, api.ErrLog)
	}
	c := many(121)
	c[120] = c[0]
	rightIs(t, c, api.ErrLog)
}

// R4, R6: changes are neither changed nor kept, the steps new memory.
func TestChangesAreLeftAlone(t *testing.T) {
	c := append(make([]api.Change, 0, 300), many(9)...)
	before := slices.Clone(c)
	first, n, _ := seal.Steps(2, 6, c)
	again, m, _ := seal.Steps(2, 6, c)
	if !slices.Equal(c, before) || !slices.Equal(first, again) || n != m || seal.Right(c) != api.OK || !slices.Equal(c, before) {
		t.Fatal("the changes are others now, or the steps are")
	}
	clear(c)
	clear(first)
	sealing := plainSealing(2, 6, before)
	if !slices.Equal(again, append(sealing, plainMaking(2, before)...)) {
		t.Error("the steps share memory with the changes, or with each other")
	}
	if spare := c[:cap(c)]; slices.ContainsFunc(spare, func(x api.Change) bool { return x != api.Change{} }) {
		t.Error("what lies behind the changes was written")
	}
}

// P7.1: each kind of step does layer 2's call, and just one.
func TestDo(t *testing.T) {
	m := memory.New(20)
	for i, x := range []struct {
		s        seal.Step
		read     uint64
		loose    []int
		lost     uint64
		behindIt string
	}{
		{seal.Step{Kind: 1, At: 9, V: 7}, 7, []int{9}, 0, "a store"},
		{seal.Step{Kind: 2, At: 15, V: 99}, 7, []int{9}, 0, "a flush"},
		{seal.Step{Kind: 3, At: -5, V: 99}, 7, nil, 7, "a fence"},
	} {
		if e := seal.Do(m, x.s); e != api.OK || m.Calls() != i+1 || m.Read(9) != x.read || !slices.Equal(m.Loose(), x.loose) {
			t.Fatalf("%s: %d, %d calls, %d, loose %v", x.behindIt, e, m.Calls(), m.Read(9), m.Loose())
		}
	}
	m.Crash(nil)
	if m.Read(9) != 7 {
		t.Error("it isn't sure behind the fence")
	}
}

// P7.1, E0: layer 2's errors: a place that there isn't, a memory that stands still, no memory.
func TestDoOfWhatLayerTwoRefuses(t *testing.T) {
	for _, at := range []int{-1, -8, 20, 21, 24, math.MinInt, math.MaxInt} {
		for kind := 1; kind <= 2; kind++ {
			m := memory.New(20)
			if e := seal.Do(m, seal.Step{Kind: kind, At: at, V: 1}); e != api.ErrArg || m.Calls() != 1 || len(m.Loose()) != 0 {
				t.Errorf("kind %d at %d: %d, %d calls", kind, at, e, m.Calls())
			}
			m.Stop(0)
			if e := seal.Do(m, seal.Step{Kind: kind, At: at, V: 1}); e != api.ErrCrash || m.Calls() != 2 {
				t.Errorf("kind %d at %d, standing still: %d, %d calls", kind, at, e, m.Calls())
			}
		}
	}
	m := memory.New(20)
	m.Stop(0)
	for kind := 1; kind <= 3; kind++ {
		if e := seal.Do(m, seal.Step{Kind: kind, At: 3, V: 1}); e != api.ErrCrash || m.Calls() != kind || m.Read(3) != 0 {
			t.Errorf("kind %d, standing still: %d", kind, e)
		}
	}
	for kind := -1; kind <= 4; kind++ {
		if e := seal.Do(nil, seal.Step{Kind: kind}); e != api.ErrArg {
			t.Errorf("kind %d without a memory: %d", kind, e)
		}
		if e := seal.Do(&memory.Memory{}, seal.Step{Kind: kind}); (e == api.OK) != (kind == 3) {
			t.Errorf("kind %d of a memory without words: %d", kind, e)
		}
	}
}

// P7.1, E0, R3: a step of another kind is none, whatever the memory; it doesn't count.
func TestDoOfOtherKinds(t *testing.T) {
	for _, kind := range []int{0, -1, -2, -3, 4, 5, 1 << 32, 1<<32 + 1, 257, math.MinInt, math.MinInt + 1, math.MaxInt} {
		m := memory.New(8)
		m.Store(1, 5)
		for _, stop := range []int{-1, 0} {
			m.Stop(stop)
			for _, at := range []int{0, 1, -1, 8} {
				if e := seal.Do(m, seal.Step{Kind: kind, At: at, V: 9}); e != api.ErrArg {
					t.Errorf("kind %d: %d", kind, e)
				}
			}
		}
		if m.Calls() != 1 || !slices.Equal(m.Loose(), []int{1}) || m.Read(1) != 5 {
			t.Errorf("kind %d did something", kind)
		}
	}
}

// refuses asks that Recover answers an error and nothing beside it, and does nothing.
func refuses(t *testing.T, what string, image []uint64, want api.Errno) {
	t.Helper()
	for _, stop := range []int{-1, 0} {
		m := memory.Load(image)
		m.Stop(stop)
		if n, e := seal.Recover(m); n != 0 || e != want {
			t.Errorf("Recover of %s: %d %d, not %d", what, n, e, want)
		}
		if m.Calls() != 0 || !slices.Equal(m.Image(), image) {
			t.Errorf("Recover of %s did something", what)
		}
	}
}

// P7.1, E0
func TestRecoverWithoutAMemory(t *testing.T) {
	if n, e := seal.Recover(nil); n != 0 || e != api.ErrArg {
		t.Error(n, e)
	}
	if n, e := seal.Recover(&memory.Memory{}); n != 0 || e != api.ErrCorrupt {
		t.Error(n, e)
	}
}

// P7.1: of another size, with another head, with whole logs or none.
func TestRecoverOfWhatIsNotOfThePlan(t *testing.T) {
	refuses(t, "no words", nil, api.ErrCorrupt)
	refuses(t, "the head alone", plan.Head(), api.ErrCorrupt)
	refuses(t, "words 0", make([]uint64, size), api.ErrCorrupt)
	whole := laidOut()
	writeLog(whole, 0, 1, 1, api.Change{At: 8, V: 1})
	for _, l := range [][]uint64{laidOut(), whole} {
		refuses(t, "a word fewer", l[:size-1], api.ErrCorrupt)
		refuses(t, "a word more", append(slices.Clone(l), 0), api.ErrCorrupt)
		for at := range 8 {
			other := slices.Clone(l)
			other[at] ^= 1 << 40
			refuses(t, "another head", other, api.ErrCorrupt)
		}
	}
}

// P7.1: no log is sealed: nothing is to be done, and nothing is, be it that the memory stands still.
func TestRecoverOfNoLog(t *testing.T) {
	refuses(t, "logs that are 0", laidOut(), api.OK)
	stale := laidOut()
	writeLog(stale, 0, 0, 2, api.Change{At: 8, V: 1}, api.Change{At: 9, V: 2})
	writeLog(stale, 1, 0, math.MaxUint64, api.Change{At: -1, V: 1})
	writeLog(stale, 2, 0, 121, many(120)...)
	writeLog(stale, 3, 0, 2, api.Change{At: 7, V: 1}, api.Change{At: 7, V: 1})
	refuses(t, "logs whose status is 0", stale, api.OK)
}

// sealedLog is a log for tests: where, its status and its changes.
type sealedLog struct {
	slot   int
	status uint64
	c      []api.Change
}

// recoversAs asks that Recover does the steps of these logs, one behind the other, and no call more: at whichever of them the memory stands still it is as those ahead leave it.
func recoversAs(t *testing.T, what string, image []uint64, logs ...sealedLog) {
	t.Helper()
	var row []seal.Step
	for _, l := range logs {
		row = append(row, plainMaking(l.slot, l.c)...)
	}
	for stop := range len(row) + 2 {
		m, want := memory.Load(image), memory.Load(image)
		done := min(stop, len(row))
		for _, s := range row[:done] {
			do(t, want, s)
		}
		m.Stop(stop)
		n, e := seal.Recover(m)
		if done == len(row) && (n != len(logs) || e != api.OK || m.Calls() != done) {
			t.Fatalf("%s: %d %d, %d calls, not %d", what, n, e, m.Calls(), done)
		}
		if done < len(row) && (n != 0 || e != api.ErrCrash || m.Calls() != done+1) {
			t.Fatalf("%s, standing still at %d: %d %d, %d calls", what, stop, n, e, m.Calls())
		}
		alike(t, m, want)
	}
}

// do does a step by layer 2's calls alone.
func do(t *testing.T, m *memory.Memory, s seal.Step) {
	t.Helper()
	var e api.Errno
	switch s.Kind {
	case 1:
		e = m.Store(s.At, s.V)
	case 2:
		e = m.Flush(s.At)
	case 3:
		e = m.Fence()
	}
	if e != api.OK {
		t.Fatal("a step's error", s, e)
	}
}

// alike asks that two memories have the same words, loose, on the way and sure.
func alike(t *testing.T, a, b *memory.Memory) {
	t.Helper()
	if !slices.Equal(a.Image(), b.Image()) || !slices.Equal(a.Loose(), b.Loose()) {
		t.Fatal("other words, or other loose ones", a.Loose(), b.Loose())
	}
	for _, m := range []*memory.Memory{a, b} {
		m.Stop(-1)
		m.Fence()
	}
	if !slices.Equal(a.Loose(), b.Loose()) {
		t.Fatal("other words on the way", a.Loose(), b.Loose())
	}
	a.Crash(nil)
	b.Crash(nil)
	if !slices.Equal(a.Image(), b.Image()) {
		t.Fatal("other words are sure")
	}
}

// P7.1: one log, of each slot, and as many changes as there may be.
func TestRecoverOfOneLog(t *testing.T) {
	for _, n := range []int{1, 2, 5, 119, 120} {
		for slot, status := range []uint64{1, 77, 1 << 63, math.MaxUint64} {
			image := laidOut()
			writeLog(image, slot, status, uint64(n), many(n)...)
			recoversAs(t, "one log", image, sealedLog{slot, status, many(n)})
		}
	}
}

// P7.1: changes of the words at the edges, and of as many words as they are.
func TestRecoverOfChangesAtTheEdges(t *testing.T) {
	var c []api.Change
	for i, at := range []int{2823, 8, 295, 200, 1288, 199} {
		c = append(c, api.Change{At: at, V: uint64(i) * math.MaxUint64})
	}
	image := laidOut()
	writeLog(image, 3, 9, 6, c...)
	recoversAs(t, "changes at the edges", image, sealedLog{3, 9, c})
}

// P7.1: a log without a change is one; words of it that hold none play no part.
func TestRecoverOfACountOfNone(t *testing.T) {
	for slot := range 4 {
		image := laidOut()
		writeLog(image, slot, 3, 0, api.Change{At: 7, V: 1}, api.Change{At: 7, V: 1})
		for i := 2; i < 8; i++ {
			image[logsAt+logLen*slot+i] = math.MaxUint64
		}
		recoversAs(t, "a count of 0", image, sealedLog{slot: slot, status: 3})
	}
	image := laidOut()
	writeLog(image, 1, 3, 1, api.Change{At: 8, V: 1}, api.Change{At: 7, V: 1}, api.Change{At: 8, V: 2})
	recoversAs(t, "words behind its changes", image, sealedLog{1, 3, []api.Change{{At: 8, V: 1}}})
}

// P7.1: counts above 120, with changes that may be, alone and while another log is whole.
func TestRecoverOfCountsThatAreTooGreat(t *testing.T) {
	for _, count := range []uint64{121, 122, 240, 1 << 31, 1 << 32, 1<<32 + 1, 1 << 62, 1 << 63, 1<<63 + 1, math.MaxUint64} {
		for slot := range 4 {
			image := laidOut()
			writeLog(image, slot, 5, count, many(120)...)
			refuses(t, "a great count", image, api.ErrCorrupt)
			writeLog(image, (slot+1)%4, 4, 1, api.Change{At: 8, V: 1})
			refuses(t, "a great count beside a whole log", image, api.ErrCorrupt)
		}
	}
}

// P7.1: a log whose changes may not be, alone and while others are whole, ahead of it and behind it.
func TestRecoverOfChangesThatMayNotBe(t *testing.T) {
	wrong := [][]api.Change{
		{{At: 8, V: 1}, {At: 8, V: 1}},
		{{At: 8, V: 1}, {At: 9, V: 1}, {At: 2823, V: 1}, {At: 8, V: 2}},
	}
	for _, at := range wrongWords() {
		wrong = append(wrong, []api.Change{{At: at, V: 1}}, []api.Change{{At: 8, V: 1}, {At: at, V: 1}})
	}
	full := many(120)
	full[119].At = full[0].At
	wrong = append(wrong, full)
	for _, c := range wrong {
		for slot := range 4 {
			image := laidOut()
			writeLog(image, slot, 5, uint64(len(c)), c...)
			refuses(t, "a log that may not be", image, api.ErrCorrupt)
			writeLog(image, (slot+1)%4, 4, 1, api.Change{At: 10, V: 1})
			refuses(t, "one beside a whole log", image, api.ErrCorrupt)
			writeLog(image, (slot+2)%4, 6, 1, api.Change{At: 11, V: 1})
			refuses(t, "one beside two whole logs", image, api.ErrCorrupt)
		}
	}
}

// orders is all orders of the numbers below n.
func orders(n int) [][]int {
	if n == 0 {
		return [][]int{nil}
	}
	var all [][]int
	for _, l := range orders(n - 1) {
		for i := range n {
			all = append(all, slices.Insert(slices.Clone(l), i, n-1))
		}
	}
	return all
}

// P7.1: two logs and four whose statuses stand in any order: each is made in its turn, whole, ahead of the next one; the last one's values stay where they share words.
func TestRecoverByStatuses(t *testing.T) {
	statuses := []uint64{1, 2, 1 << 63, math.MaxUint64}
	for _, order := range orders(4) {
		image := laidOut()
		var logs []sealedLog
		for i, slot := range order {
			c := []api.Change{{At: 8, V: uint64(i)}, {At: 1300 + i, V: 7}, {At: 16 + 8*i, V: uint64(slot)}}
			logs = append(logs, sealedLog{slot, statuses[i], c})
			writeLog(image, slot, statuses[i], 3, c...)
		}
		recoversAs(t, "four logs", image, logs...)
		m := memory.Load(image)
		if n, e := seal.Recover(m); n != 4 || e != api.OK || m.Read(8) != 3 {
			t.Fatal(order, n, e, m.Read(8))
		}
		for _, l := range logs[2:] {
			writeLog(image, l.slot, 0, 3, l.c...)
		}
		recoversAs(t, "two logs", image, logs[:2]...)
	}
}

// P7.1: one status of two logs, side by side and apart, while others have their own; a status of 0 is none's.
func TestRecoverOfOneStatusTwice(t *testing.T) {
	for _, status := range []uint64{1, 2, 3, math.MaxUint64} {
		for a := range 4 {
			for b := range a {
				image := laidOut()
				writeLog(image, a, status, 1, api.Change{At: 8, V: 1})
				writeLog(image, b, status, 1, api.Change{At: 9, V: 1})
				refuses(t, "two of one status", image, api.ErrCorrupt)
				for slot := range 4 {
					if slot != a && slot != b {
						writeLog(image, slot, 5+uint64(slot), 1, api.Change{At: 10 + slot, V: 1})
					}
				}
				refuses(t, "two of one status, and two others", image, api.ErrCorrupt)
			}
		}
	}
}

// P7.1: words that are loose are taken as they read.
func TestRecoverOfLooseWords(t *testing.T) {
	m := memory.Load(laidOut())
	for _, s := range []seal.Step{store(296, 2), store(297, 1), store(304, 8), store(305, 3)} {
		do(t, m, s)
	}
	if n, e := seal.Recover(m); n != 1 || e != api.OK || m.Read(8) != 3 || m.Read(296) != 0 {
		t.Error(n, e, m.Read(8), m.Read(296))
	}
	m.Store(544, 2)
	m.Store(545, 121)
	calls := m.Calls()
	if n, e := seal.Recover(m); n != 0 || e != api.ErrCorrupt || m.Calls() != calls {
		t.Error(n, e)
	}
}

// P7.1: a memory that has recovered has nothing more to recover, and is of the plan.
func TestRecoverAgain(t *testing.T) {
	image := laidOut()
	writeLog(image, 2, 8, 120, many(120)...)
	m := memory.Load(image)
	if n, e := seal.Recover(m); n != 1 || e != api.OK || len(m.Loose()) != 0 {
		t.Fatal(n, e, m.Loose())
	}
	for _, x := range many(120) {
		if m.Read(x.At) != x.V {
			t.Errorf("the word %d is %d", x.At, m.Read(x.At))
		}
	}
	calls := m.Calls()
	if n, e := seal.Recover(m); n != 0 || e != api.OK || m.Calls() != calls || !plan.Right(m.Image()) {
		t.Error(n, e)
	}
}

// E0: Recover ends on whatever words, and either does nothing or leaves no log.
func TestRecoverOfAnyWords(t *testing.T) {
	r := rand.New(rand.NewSource(7))
	for range 2000 {
		image := laidOut()
		for slot := range 4 {
			log := image[logsAt+logLen*slot:]
			for i := range logLen {
				log[i] = uint64(r.Intn(size))
			}
			log[0], log[1] = uint64(r.Intn(12)), uint64(r.Intn(4))
			if r.Intn(20) == 0 {
				log[r.Intn(10)] = r.Uint64()
			}
		}
		m := memory.Load(image)
		_, e := seal.Recover(m)
		switch {
		case e == api.ErrCorrupt && (m.Calls() != 0 || !slices.Equal(m.Image(), image)):
			t.Fatal("it did something, and refused")
		case e == api.OK && (m.Read(296)|m.Read(544)|m.Read(792)|m.Read(1040)) != 0:
			t.Fatal("a log is left")
		case e != api.OK && e != api.ErrCorrupt:
			t.Fatal(e)
		}
	}
}
