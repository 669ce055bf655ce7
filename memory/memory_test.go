package memory_test

import (
	"fmt"
	"math"
	"math/rand"
	"slices"
	"testing"

	"escritoire/api"
	"escritoire/memory"
)

// wrongPlaces is places that no memory of n words has.
func wrongPlaces(n int) []int {
	return []int{-1, -7, -8, -9, n, n + 1, n + 7, n + 8, math.MinInt, math.MinInt + 1, math.MaxInt, math.MaxInt - 7}
}

// ok asks that every call answered OK.
func ok(t *testing.T, l ...api.Errno) {
	t.Helper()
	for i, e := range l {
		if e != api.OK {
			t.Fatalf("call %d: error %d", i, e)
		}
	}
}

// reads asks that a word reads so.
func reads(t *testing.T, m *memory.Memory, at int, want uint64) {
	t.Helper()
	if v := m.Read(at); v != want {
		t.Fatalf("word %d reads %d, not %d", at, v, want)
	}
}

// looseAre asks that just these words are loose.
func looseAre(t *testing.T, m *memory.Memory, want ...int) {
	t.Helper()
	if l := m.Loose(); !slices.Equal(l, want) {
		t.Fatalf("loose: %v, not %v", l, want)
	}
}

// P2.1: 0 words, 4096, and past both ends.
func TestNewBoundsItsWords(t *testing.T) {
	for _, c := range [][2]int{
		{0, 0}, {1, 1}, {7, 7}, {8, 8}, {20, 20}, {4095, 4095}, {4096, 4096}, {4097, 4096},
		{-1, 0}, {math.MinInt, 0}, {math.MaxInt, 4096},
	} {
		m := memory.New(c[0])
		if m.Size() != c[1] || len(m.Image()) != c[1] || m.Calls() != 0 || len(m.Loose()) != 0 {
			t.Fatalf("New(%d): %d words, %d calls", c[0], m.Size(), m.Calls())
		}
		for i, v := range m.Image() {
			if v != 0 {
				t.Fatalf("New(%d): word %d is %d", c[0], i, v)
			}
		}
		if c[1] > 0 {
			ok(t, m.Store(c[1]-1, 9), m.Flush(c[1]-1))
			reads(t, m, c[1]-1, 9)
		}
		if m.Store(c[1], 9) != api.ErrArg {
			t.Fatalf("New(%d): there is a word more", c[0])
		}
	}
}

// P2.1: the words are sure, the first 4096 of them.
func TestLoadTakesItsWordsAsSure(t *testing.T) {
	for _, n := range []int{0, 1, 9, 4095, 4096, 4097, 5000} {
		l := make([]uint64, n)
		for i := range l {
			l[i] = uint64(i)*3 + 1
		}
		m := memory.Load(l)
		want := l[:min(n, 4096)]
		if m.Size() != len(want) || m.Calls() != 0 || len(m.Loose()) != 0 {
			t.Fatalf("Load of %d: %d words", n, m.Size())
		}
		for range 2 {
			if !slices.Equal(m.Image(), want) {
				t.Fatalf("Load of %d: other words", n)
			}
			m.Crash(nil)
		}
	}
	if memory.Load(nil).Size() != 0 {
		t.Fatal("Load(nil) has words")
	}
}

// R4: a list that is handed in is neither changed nor kept; what is answered is new memory.
func TestListsAreNotShared(t *testing.T) {
	l := make([]uint64, 3, 16)
	copy(l, []uint64{1, 2, 3})
	m := memory.Load(l)
	l[0] = 9
	reads(t, m, 0, 1)
	ok(t, m.Store(1, 7), m.Flush(1), m.Fence(), m.Store(2, 8))
	if !slices.Equal(l, []uint64{9, 2, 3}) {
		t.Fatal("the list handed in was changed", l)
	}
	m.Image()[1] = 50
	m.Loose()[0] = 1
	reads(t, m, 1, 7)
	looseAre(t, m, 2)
	keep := []bool{true, false}
	m.Crash(keep)
	if !keep[0] || keep[1] {
		t.Fatal("keep was changed", keep)
	}
}

// P2.2, and the chapter's example.
func TestWhatIsFencedIsThereBehindACrash(t *testing.T) {
	m := memory.New(8)
	ok(t, m.Store(0, 7), m.Flush(0), m.Fence(), m.Store(0, 8))
	reads(t, m, 0, 8)
	m.Crash(nil)
	reads(t, m, 0, 7)
}

// P2.2: a store, a flush without a fence, a fence without a flush: none is enough.
func TestWhatIsNotFencedIsLost(t *testing.T) {
	m := memory.New(8)
	ok(t, m.Store(0, 1))
	m.Crash(nil)
	reads(t, m, 0, 0)
	ok(t, m.Store(0, 1), m.Flush(0))
	m.Crash(nil)
	reads(t, m, 0, 0)
	ok(t, m.Fence())
	reads(t, m, 0, 0)
	ok(t, m.Store(0, 1), m.Fence())
	looseAre(t, m, 0)
	m.Crash(nil)
	reads(t, m, 0, 0)
	ok(t, m.Flush(0), m.Store(0, 1), m.Fence())
	m.Crash(nil)
	reads(t, m, 0, 0)
}

// P2.1: a word is loose once it is stored, even as it was.
func TestAStoreOfTheSameValueIsLoose(t *testing.T) {
	m := memory.Load([]uint64{5, 6})
	ok(t, m.Store(1, 6))
	looseAre(t, m, 1)
	ok(t, m.Store(0, 5), m.Store(1, 7), m.Store(1, 6))
	looseAre(t, m, 0, 1)
	m.Crash([]bool{true})
	if !slices.Equal(m.Image(), []uint64{5, 6}) {
		t.Fatal(m.Image())
	}
}

// P2.1: the first and the last word of a line, from whichever word of it; a last line that isn't whole.
func TestAFlushTakesItsLineAlone(t *testing.T) {
	const n = 20
	for at := range n {
		m := memory.New(n)
		for i := range n {
			ok(t, m.Store(i, uint64(i)+1))
		}
		ok(t, m.Flush(at), m.Fence())
		var want []int
		for i := range n {
			if i/api.Line != at/api.Line {
				want = append(want, i)
			}
		}
		looseAre(t, m, want...)
		m.Crash(nil)
		for i := range n {
			if i/api.Line == at/api.Line {
				reads(t, m, i, uint64(i)+1)
			} else {
				reads(t, m, i, 0)
			}
		}
	}
}

// P2.1: a fence makes sure the lines of all flushes ahead of it, and a flush no words that were stored behind it.
func TestAFenceTakesAllFlushes(t *testing.T) {
	m := memory.New(24)
	ok(t, m.Store(0, 1), m.Flush(0), m.Store(16, 2), m.Flush(23), m.Store(1, 3), m.Store(8, 4), m.Fence())
	looseAre(t, m, 1, 8)
	m.Crash(nil)
	reads(t, m, 0, 1)
	reads(t, m, 16, 2)
	reads(t, m, 1, 0)
	reads(t, m, 8, 0)
}

// P2.1: a word stored again between its flush and the fence.
func TestAWordStoredAgainStaysLoose(t *testing.T) {
	m := memory.New(8)
	ok(t, m.Store(3, 1), m.Flush(3), m.Store(3, 2), m.Fence())
	reads(t, m, 3, 2)
	looseAre(t, m, 3)
	ok(t, m.Fence())
	looseAre(t, m, 3)
	m.Crash(nil)
	reads(t, m, 3, 1)

	ok(t, m.Store(3, 4), m.Flush(3), m.Store(3, 5), m.Store(3, 4), m.Fence())
	looseAre(t, m)
	m.Crash(nil)
	reads(t, m, 3, 4)

	ok(t, m.Store(3, 6), m.Flush(3), m.Store(3, 7), m.Flush(3), m.Fence())
	looseAre(t, m)
	m.Crash(nil)
	reads(t, m, 3, 7)

	ok(t, m.Store(3, 8), m.Flush(3), m.Store(3, 9), m.Fence())
	m.Crash([]bool{true})
	reads(t, m, 3, 9)
}

// P2.1: a word that is evicted, while it is on the way too; others stay as they are.
func TestEvictMakesALooseWordSure(t *testing.T) {
	m := memory.New(16)
	ok(t, m.Store(1, 1), m.Store(2, 2))
	m.Evict(1)
	looseAre(t, m, 2)
	m.Crash(nil)
	reads(t, m, 1, 1)
	reads(t, m, 2, 0)

	ok(t, m.Store(1, 3), m.Store(2, 4), m.Flush(1), m.Store(1, 5))
	m.Evict(1)
	reads(t, m, 1, 5)
	looseAre(t, m, 2)
	ok(t, m.Fence())
	reads(t, m, 1, 5)
	looseAre(t, m)
	m.Crash(nil)
	reads(t, m, 1, 5)
	reads(t, m, 2, 4)

	ok(t, m.Store(1, 6), m.Flush(1))
	m.Evict(1)
	ok(t, m.Store(1, 7), m.Fence())
	looseAre(t, m, 1)
	m.Crash(nil)
	reads(t, m, 1, 6)
}

// P2.1: what isn't loose, or isn't there, is not evicted; none of it counts; it may be while the memory stands still.
func TestEvictOfOthersDoesNothing(t *testing.T) {
	m := memory.Load([]uint64{4, 5})
	m.Evict(0)
	for _, at := range wrongPlaces(2) {
		m.Evict(at)
	}
	ok(t, m.Store(1, 6))
	m.Stop(0)
	m.Evict(0)
	looseAre(t, m, 1)
	m.Evict(1)
	looseAre(t, m)
	if m.Calls() != 1 || m.Store(0, 1) != api.ErrCrash {
		t.Fatal("Evict counted, or woke the memory", m.Calls())
	}
	m.Crash(nil)
	if !slices.Equal(m.Image(), []uint64{4, 6}) {
		t.Fatal(m.Image())
	}
}

// P2.1, R3: places that there are not.
func TestWrongPlaces(t *testing.T) {
	for _, n := range []int{0, 1, 8, 20, 4096} {
		m := memory.New(n)
		for i := range n {
			ok(t, m.Store(i, 1))
		}
		calls := m.Calls()
		for _, at := range wrongPlaces(n) {
			if m.Store(at, 3) != api.ErrArg || m.Flush(at) != api.ErrArg || m.Read(at) != 0 {
				t.Fatalf("%d words: there is a word %d", n, at)
			}
			calls += 2
		}
		if m.Calls() != calls {
			t.Fatalf("%d calls, not %d", m.Calls(), calls)
		}
		ok(t, m.Fence())
		if len(m.Loose()) != n {
			t.Fatalf("%d words: a refused flush put some on the way", n)
		}
		m.Crash(nil)
		if !slices.Equal(m.Image(), make([]uint64, n)) {
			t.Fatal("a refused call changed a word")
		}
	}
}

// P2.1: Store, Flush and Fence count, whatever they answer, and nothing else does.
func TestWhichCallsCount(t *testing.T) {
	m := memory.New(8)
	counts := []func(){
		func() { m.Store(0, 1) }, func() { m.Store(8, 1) }, func() { m.Store(-1, 1) },
		func() { m.Flush(0) }, func() { m.Flush(8) }, func() { m.Flush(7) }, func() { m.Fence() },
	}
	others := []func(){
		func() { m.Evict(0) }, func() { m.Read(0) }, func() { m.Image() }, func() { m.Size() },
		func() { m.Calls() }, func() { m.Loose() },
	}
	want := 0
	for _, stop := range []int{-1, 0} {
		m.Stop(stop)
		for _, f := range counts {
			f()
			want++
			if m.Calls() != want {
				t.Fatalf("%d calls, not %d", m.Calls(), want)
			}
		}
		for _, f := range others {
			f()
		}
		if m.Calls() != want {
			t.Fatalf("%d calls, not %d", m.Calls(), want)
		}
	}
	m.Crash(nil)
	m.Crash([]bool{true})
	if m.Calls() != want {
		t.Fatalf("a crash: %d calls, not %d", m.Calls(), want)
	}
}

// callAt does one of the calls that count, by turns.
func callAt(m *memory.Memory, i int) api.Errno {
	switch i % 3 {
	case 0:
		return m.Store(i%8, uint64(i))
	case 1:
		return m.Flush(i % 8)
	}
	return m.Fence()
}

// P2.1: the n-th call from now on, and all behind it; from whichever call on it is said.
func TestStopNamesTheCall(t *testing.T) {
	for ahead := range 4 {
		for n := range 10 {
			m := memory.New(8)
			for i := range ahead {
				ok(t, callAt(m, i))
			}
			m.Stop(n)
			for i := range n + 12 {
				want := api.OK
				if i >= n {
					want = api.ErrCrash
				}
				if e := callAt(m, i); e != want {
					t.Fatalf("%d ahead, Stop(%d), call %d: %d, not %d", ahead, n, i, e, want)
				}
			}
		}
	}
}

// P2.1: a Stop that names no call, behind calls that would wrap its number round, or one that is far off.
func TestStopNever(t *testing.T) {
	for _, n := range []int{-1, -2, math.MinInt, 1<<40 + 1, 1 << 41, math.MaxInt, math.MaxInt - 1, 1 << 40, 1000} {
		for _, first := range []int{-1, 0, 2} {
			m := memory.New(8)
			ok(t, m.Fence(), m.Fence())
			m.Stop(first)
			m.Stop(n)
			for i := range 99 {
				if e := callAt(m, i); e != api.OK {
					t.Fatalf("Stop(%d), call %d: %d", n, i, e)
				}
			}
		}
	}
}

// P2.1: what was said ahead no longer holds, while the memory stands still too.
func TestStopSaidAgain(t *testing.T) {
	m := memory.New(8)
	m.Stop(0)
	m.Stop(1)
	ok(t, m.Fence())
	if m.Fence() != api.ErrCrash {
		t.Fatal("the second Stop doesn't hold")
	}
	m.Stop(2)
	ok(t, m.Store(0, 1), m.Fence())
	if m.Store(0, 2) != api.ErrCrash {
		t.Fatal("the third Stop doesn't hold")
	}
	reads(t, m, 0, 1)
	m.Stop(-1)
	ok(t, m.Store(0, 3), m.Flush(0), m.Fence())
	m.Stop(5)
	m.Stop(0)
	if m.Flush(0) != api.ErrCrash {
		t.Fatal("a nearer Stop doesn't hold")
	}
}

// P2.1, R1, R3: ErrCrash is told first, and changes nothing; the words read on.
func TestWhileTheMemoryStandsStill(t *testing.T) {
	m := memory.New(16)
	ok(t, m.Store(0, 1), m.Flush(0), m.Store(8, 2))
	m.Stop(0)
	for _, at := range append(wrongPlaces(16), 0, 8, 9) {
		if m.Store(at, 7) != api.ErrCrash || m.Flush(at) != api.ErrCrash || m.Fence() != api.ErrCrash {
			t.Fatalf("a call at %d was done", at)
		}
	}
	reads(t, m, 0, 1)
	reads(t, m, 8, 2)
	reads(t, m, 9, 0)
	looseAre(t, m, 0, 8)
	m.Stop(-1)
	ok(t, m.Fence())
	looseAre(t, m, 8)
	m.Crash(nil)
	reads(t, m, 0, 1)
	reads(t, m, 8, 0)
}

// P2.1, P2.2: the keep is held against the loose words in order, again from its first on.
func TestCrashKeepsByOrder(t *testing.T) {
	for _, keep := range [][]bool{
		nil, {}, {true}, {false}, {true, false}, {false, true}, {false, false, true}, {true, true, false, false},
		{false, true, true, false, true, false, false, true, true},
	} {
		m := memory.New(40)
		var places []int
		for i := 39; i >= 0; i -= 3 {
			places = append(places, i)
			ok(t, m.Store(i, 1), m.Flush(i), m.Fence())
		}
		for _, at := range places {
			ok(t, m.Store(at, 2))
		}
		slices.Sort(places)
		looseAre(t, m, places...)
		m.Crash(keep)
		for k, at := range places {
			want := uint64(1)
			if len(keep) > 0 && keep[k%len(keep)] {
				want = 2
			}
			reads(t, m, at, want)
		}
		looseAre(t, m)
	}
}

// P2.1: behind a crash none is loose or on the way, and the memory doesn't stand still; twice in a row.
func TestBehindACrash(t *testing.T) {
	m := memory.New(8)
	ok(t, m.Store(0, 1), m.Store(1, 2), m.Flush(0))
	m.Stop(0)
	m.Crash([]bool{false, true})
	for range 2 {
		looseAre(t, m)
		reads(t, m, 0, 0)
		reads(t, m, 1, 2)
		m.Crash([]bool{true})
	}
	ok(t, m.Store(0, 5), m.Fence())
	looseAre(t, m, 0)
	m.Crash(nil)
	m.Crash([]bool{true})
	reads(t, m, 0, 0)
	ok(t, m.Store(0, 6), m.Flush(0), m.Fence())
	reads(t, m, 0, 6)
}

// A crash ends what Stop said, whether or not that call had come.
func TestACrashEndsAStopThatIsStillAhead(t *testing.T) {
	m := memory.New(8)
	m.Stop(2)
	ok(t, m.Fence())
	m.Crash(nil)
	for i := range 9 {
		ok(t, callAt(m, i))
	}
}

// R7: calls of nil.
func TestNil(t *testing.T) {
	var m *memory.Memory
	for _, at := range append(wrongPlaces(8), 0, 1) {
		if m.Store(at, 1) != api.ErrArg || m.Flush(at) != api.ErrArg || m.Fence() != api.ErrArg || m.Read(at) != 0 {
			t.Fatal("a nil memory does something at", at)
		}
		m.Evict(at)
		m.Stop(at)
	}
	m.Crash(nil)
	m.Crash([]bool{true})
	if m.Size() != 0 || m.Calls() != 0 || len(m.Image()) != 0 || len(m.Loose()) != 0 {
		t.Fatal("a nil memory has something")
	}
}

// E0: a Memory that no call made has no words.
func TestAMemoryWithoutAValue(t *testing.T) {
	var m memory.Memory
	if m.Store(0, 1) != api.ErrArg || m.Flush(0) != api.ErrArg || m.Fence() != api.OK {
		t.Fatal("it has words, or stands still")
	}
	m.Evict(0)
	m.Crash([]bool{true})
	if m.Size() != 0 || m.Calls() != 3 || len(m.Image()) != 0 || len(m.Loose()) != 0 || m.Read(0) != 0 {
		t.Fatal("it has something")
	}
}

// plainWord is a word of the model.
type plainWord struct {
	sure, now, way uint64
	loose, onWay   bool
}

// plain is the model: each word by itself, each call that counts told from the Stop's own count.
type plain struct {
	words []plainWord
	calls int
	left  int // how many calls till it stands still; below 0: never
}

func (p *plain) count() bool {
	p.calls++
	if p.left == 0 {
		return false
	}
	p.left--
	return true
}

func (p *plain) call(kind, at int, v uint64) api.Errno {
	if !p.count() {
		return api.ErrCrash
	}
	if kind != 2 && (at < 0 || at >= len(p.words)) {
		return api.ErrArg
	}
	for i := range p.words {
		w := &p.words[i]
		switch {
		case kind == 0 && i == at:
			w.now, w.loose = v, true
		case kind == 1 && i/8 == at/8 && w.loose:
			w.way, w.onWay = w.now, true
		case kind == 2 && w.onWay:
			w.sure, w.onWay = w.way, false
			w.loose = w.now != w.sure
		}
	}
	return api.OK
}

func (p *plain) evict(at int) {
	if at >= 0 && at < len(p.words) && p.words[at].loose {
		p.words[at] = plainWord{sure: p.words[at].now, now: p.words[at].now}
	}
}

func (p *plain) crash(keep []bool) {
	k := 0
	for i, w := range p.words {
		last := w.sure
		if w.loose {
			if len(keep) > 0 && keep[k%len(keep)] {
				last = w.now
			}
			k++
		}
		p.words[i] = plainWord{sure: last, now: last}
	}
	p.left = -1
}

// same tells in what the memory differs from the model, "" if in nothing.
func (p *plain) same(m *memory.Memory) string {
	var image []uint64
	var loose []int
	for i, w := range p.words {
		image = append(image, w.now)
		if w.loose {
			loose = append(loose, i)
		}
		if m.Read(i) != w.now {
			return fmt.Sprint("word ", i, ": ", m.Read(i), ", not ", w.now)
		}
	}
	if !slices.Equal(m.Image(), image) {
		return fmt.Sprint("image ", m.Image(), ", not ", image)
	}
	if !slices.Equal(m.Loose(), loose) {
		return fmt.Sprint("loose ", m.Loose(), ", not ", loose)
	}
	if m.Calls() != p.calls || m.Size() != len(p.words) {
		return fmt.Sprint("calls ", m.Calls(), ", not ", p.calls)
	}
	return ""
}

// bools answers up to 5 values.
func bools(r *rand.Rand) []bool {
	l := make([]bool, r.Intn(6))
	for i := range l {
		l[i] = r.Intn(2) == 0
	}
	return l
}

// P2.1, P2.2: whatever row of calls, held against the model behind each.
func TestAnyRowAgainstAPlainMemory(t *testing.T) {
	r := rand.New(rand.NewSource(2))
	for row := range 400 {
		n := r.Intn(28)
		m, p := memory.New(n), &plain{words: make([]plainWord, n), left: -1}
		for step := range 120 {
			at, v := r.Intn(n+3)-1, uint64(r.Intn(3))
			var e, want api.Errno
			switch k := r.Intn(24); {
			case k < 10:
				e, want = m.Store(at, v), p.call(0, at, v)
			case k < 15:
				e, want = m.Flush(at), p.call(1, at, v)
			case k < 18:
				e, want = m.Fence(), p.call(2, at, v)
			case k < 21:
				m.Evict(at)
				p.evict(at)
			case k < 22:
				p.left = r.Intn(12) - 2
				m.Stop(p.left)
			case k < 23:
				keep := bools(r)
				m.Crash(keep)
				p.crash(keep)
			}
			if e != want {
				t.Fatalf("row %d, step %d: error %d, not %d", row, step, e, want)
			}
			if s := p.same(m); s != "" {
				t.Fatalf("row %d, step %d: %s", row, step, s)
			}
		}
	}
}

// fill stores, flushes and fences till the memory stands still, at most 100 times; it answers the words as they were fenced, and as they were stored last.
func fill(m *memory.Memory) (sure, last [16]uint64) {
	for v := 1; v <= 100; v++ {
		for _, at := range []int{v * 5 % 16, v * 7 % 16} {
			if m.Store(at, uint64(v)) != api.OK {
				return sure, last
			}
			last[at] = uint64(v)
		}
		at := v * 5 % 16
		if m.Flush(at) != api.OK || m.Fence() != api.OK {
			return sure, last
		}
		first := at / 8 * 8
		copy(sure[first:first+8], last[first:])
	}
	return sure, last
}

// P2.2: at whichever call it stands still, whatever is kept, each word is one of both behind the crash.
func TestACrashAtAnyCall(t *testing.T) {
	for n := range 80 {
		for _, keep := range [][]bool{nil, {true}, {true, false}, {false, true}, {false, false, true}} {
			m := memory.New(16)
			m.Stop(n)
			sure, last := fill(m)
			m.Crash(keep)
			for i := range sure {
				if v := m.Read(i); v != sure[i] && v != last[i] {
					t.Fatalf("Stop(%d), keep %v: word %d is %d, neither %d nor %d", n, keep, i, v, sure[i], last[i])
				}
				if keep == nil {
					reads(t, m, i, sure[i])
				}
			}
		}
	}
}
