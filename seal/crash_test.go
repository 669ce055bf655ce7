package seal_test

import (
	"encoding/binary"
	"math/rand"
	"slices"
	"testing"

	"escritoire/api"
	"escritoire/memory"
	"escritoire/seal"
)

// with is an image with changes made.
func with(image []uint64, c []api.Change) []uint64 {
	l := slices.Clone(image)
	for _, x := range c {
		l[x.At] = x.V
	}
	return l
}

// reads tells whether two images are alike but for their logs, and the first has no log whose status isn't 0.
func reads(image, want []uint64) bool {
	for slot := range 4 {
		if image[logsAt+logLen*slot] != 0 {
			return false
		}
	}
	return slices.Equal(image[:logsAt], want[:logsAt]) && slices.Equal(image[logsAt+4*logLen:], want[logsAt+4*logLen:])
}

// keeps is all that may be kept of so many loose words; of more than 7 some of it.
func keeps(n int) [][]bool {
	if n > 7 {
		return [][]bool{nil, {true}, {true, false}, {false, true}, {false, false, true}, {true, true, false, true, false}}
	}
	var all [][]bool
	for bits := range 1 << n {
		l := make([]bool, n)
		for i := range l {
			l[i] = bits>>i&1 == 1
		}
		all = append(all, l)
	}
	return all
}

// search goes through all that recovering may come to, each image once.
type search struct {
	t    *testing.T
	seen map[string]bool
	may  [][]uint64 // what may be behind it, one of them
}

func newSearch(t *testing.T, may ...[]uint64) *search {
	return &search{t, map[string]bool{}, may}
}

func key(image []uint64) string {
	var b []byte
	for _, w := range image {
		b = binary.LittleEndian.AppendUint64(b, w)
	}
	return string(b)
}

// recovers asks that recovering an image comes to what may be: done wholly, and cut short at whichever call, whatever is kept, and then anew, however often.
func (s *search) recovers(image []uint64) {
	s.t.Helper()
	k := key(image)
	if s.seen[k] {
		return
	}
	s.seen[k] = true
	m := memory.Load(image)
	if _, e := seal.Recover(m); e != api.OK {
		s.t.Fatal("not recovered", e)
	}
	calls := m.Calls()
	m.Crash(nil)
	if !slices.ContainsFunc(s.may, func(want []uint64) bool { return reads(m.Image(), want) }) {
		s.t.Fatal("recovered to what may not be")
	}
	for stop := range calls {
		cut := s.cutShort(image, stop)
		for _, keep := range keeps(len(cut.Loose())) {
			m := s.cutShort(image, stop)
			m.Crash(keep)
			s.recovers(m.Image())
		}
	}
}

// cutShort is a memory in which recovering found that it stands still.
func (s *search) cutShort(image []uint64, stop int) *memory.Memory {
	s.t.Helper()
	m := memory.Load(image)
	m.Stop(stop)
	if n, e := seal.Recover(m); n != 0 || e != api.ErrCrash {
		s.t.Fatal("not cut short", n, e)
	}
	return m
}

// evictions is ways to evict words behind each step: none, all, one that is loose, a status alone, some at random.
func evictions(log int) []func(*memory.Memory, int) {
	all := []func(*memory.Memory, int){
		func(*memory.Memory, int) {},
		func(m *memory.Memory, _ int) {
			for _, at := range m.Loose() {
				m.Evict(at)
			}
		},
		func(m *memory.Memory, _ int) {
			if l := m.Loose(); len(l) > 0 {
				m.Evict(l[0])
			}
		},
		func(m *memory.Memory, _ int) {
			if l := m.Loose(); len(l) > 0 {
				m.Evict(l[len(l)-1])
			}
		},
		func(m *memory.Memory, _ int) { m.Evict(log) },
		func(m *memory.Memory, _ int) { m.Evict(log + 1) },
	}
	for seed := range 6 {
		all = append(all, func(m *memory.Memory, step int) {
			r := rand.New(rand.NewSource(int64(100*seed + step)))
			for _, at := range m.Loose() {
				if r.Intn(4) == 0 {
					m.Evict(at)
				}
			}
		})
	}
	return all
}

// run is a memory that stands still at a step of making, with words evicted behind each.
func run(t *testing.T, image []uint64, steps []seal.Step, stop int, evict func(*memory.Memory, int)) *memory.Memory {
	t.Helper()
	m := memory.Load(image)
	m.Stop(stop)
	for i, s := range steps {
		e := seal.Do(m, s)
		if (e == api.OK) != (i < stop) || e != api.OK && e != api.ErrCrash {
			t.Fatal("a step's error", i, stop, e)
		}
		evict(m, i)
		if e != api.OK {
			break
		}
	}
	return m
}

// crashesAnywhere asks P7.2 of a making: at whichever step, whatever is evicted and kept, and however often recovering crashes.
func crashesAnywhere(t *testing.T, image []uint64, slot int, number uint64, c []api.Change) {
	t.Helper()
	steps, sealed, e := seal.Steps(slot, number, c)
	if e != api.OK {
		t.Fatal(e)
	}
	none, all := image, with(image, c)
	open, shut := newSearch(t, none, all), newSearch(t, all)
	for _, evict := range evictions(logsAt + logLen*slot) {
		for stop := range len(steps) + 1 {
			s := open
			if stop >= sealed {
				s = shut
			}
			for _, keep := range keeps(len(run(t, image, steps, stop, evict).Loose())) {
				m := run(t, image, steps, stop, evict)
				m.Crash(keep)
				s.recovers(m.Image())
			}
		}
	}
}

// P7.2: one change and some, in one line and apart, of a word of each kind.
func TestACrashAtAnyStep(t *testing.T) {
	crashesAnywhere(t, laidOut(), 0, 1, []api.Change{{At: 8, V: 7}})
	crashesAnywhere(t, laidOut(), 3, 9, []api.Change{{At: 2823, V: 7}, {At: 200, V: 0}})
	crashesAnywhere(t, laidOut(), 1, 4, []api.Change{{At: 8, V: 1}, {At: 1300, V: 2}, {At: 9, V: 3}})
	crashesAnywhere(t, laidOut(), 2, 1<<64-1, []api.Change{{At: 1300, V: 1}, {At: 15, V: 2}, {At: 295, V: 3}, {At: 8, V: 4}, {At: 1296, V: 5}})
}

// P7.2: a log that was in use ahead: what it held then isn't made again, whatever is kept of what it holds now.
func TestACrashInALogThatWasInUse(t *testing.T) {
	for _, first := range [][]api.Change{many(1), many(5), many(120), inRow(8, 3)} {
		m := memory.Load(laidOut())
		steps, _, _ := seal.Steps(1, 6, first)
		for _, s := range steps {
			do(t, m, s)
		}
		m.Crash(nil)
		image := m.Image()
		if !reads(image, with(laidOut(), first)) {
			t.Fatal("the first ones aren't there")
		}
		for _, x := range first {
			image[x.At] = 99
		}
		crashesAnywhere(t, image, 1, 7, []api.Change{{At: 9, V: 5}, {At: 2000, V: 6}})
	}
}

// P7.2: as many changes as there may be, at each step, with some of what may be kept, evicted, and cut short.
func TestACrashOfManyChanges(t *testing.T) {
	r := rand.New(rand.NewSource(120))
	image := laidOut()
	for slot, c := range [][]api.Change{many(120), inRow(1288, 119)} {
		steps, sealed, _ := seal.Steps(slot, 3, c)
		ways := evictions(logsAt + logLen*slot)
		for stop := range len(steps) + 1 {
			m := run(t, image, steps, stop, ways[r.Intn(len(ways))])
			m.Crash(someKept(r))
			recoverAtLast(t, m, r)
			if got := m.Image(); !reads(got, with(image, c)) && (stop >= sealed || !reads(got, image)) {
				t.Fatalf("%d changes, at step %d of %d: neither none nor all", len(c), stop, len(steps))
			}
		}
	}
}

// someKept is a keep for a crash.
func someKept(r *rand.Rand) []bool {
	l := make([]bool, r.Intn(6))
	for i := range l {
		l[i] = r.Intn(2) == 0
	}
	return l
}

// recoverAtLast recovers a memory behind up to 4 crashes in between.
func recoverAtLast(t *testing.T, m *memory.Memory, r *rand.Rand) {
	t.Helper()
	for range r.Intn(5) {
		m.Stop(r.Intn(300))
		if _, e := seal.Recover(m); e != api.OK && e != api.ErrCrash {
			t.Fatal(e)
		}
		for _, at := range m.Loose() {
			if r.Intn(3) == 0 {
				m.Evict(at)
			}
		}
		m.Crash(someKept(r))
	}
	if _, e := seal.Recover(m); e != api.OK {
		t.Fatal(e)
	}
	m.Crash(nil)
}

// P7.2: logs that are sealed, whose changes share words, in an order other than their slots': all are there, each over those ahead of it.
func TestACrashWhileSomeLogsRecover(t *testing.T) {
	logs := []sealedLog{
		{2, 5, []api.Change{{At: 8, V: 1}, {At: 1300, V: 2}}},
		{0, 6, []api.Change{{At: 1300, V: 3}, {At: 9, V: 4}}},
		{3, 1 << 63, nil},
		{1, 1<<64 - 1, []api.Change{{At: 9, V: 5}, {At: 8, V: 6}, {At: 10, V: 7}}},
	}
	image, want := laidOut(), laidOut()
	for _, l := range logs {
		writeLog(image, l.slot, l.status, uint64(len(l.c)), l.c...)
		want = with(want, l.c)
	}
	newSearch(t, want).recovers(image)
}

// party is a making among others.
type party struct {
	c      []api.Change
	steps  []seal.Step
	sealed int
	done   int
}

// parties is four of them whose words differ, but lie in the same lines.
func parties(t *testing.T, r *rand.Rand) []*party {
	t.Helper()
	words := append(inRow(8, 24), inRow(1288, 24)...)
	r.Shuffle(len(words), func(i, j int) { words[i], words[j] = words[j], words[i] })
	var l []*party
	for slot, number := range r.Perm(4) {
		p := &party{c: words[12*slot : 12*slot+1+r.Intn(12)]}
		var e api.Errno
		if p.steps, p.sealed, e = seal.Steps(slot, uint64(number)+1, p.c); e != api.OK {
			t.Fatal(e)
		}
		l = append(l, p)
	}
	return l
}

// P7.2: four makings at once, step by step in any row: of each all changes are there, or, if they weren't sealed, none or all.
func TestACrashOfMakingsAtOnce(t *testing.T) {
	r := rand.New(rand.NewSource(4))
	image := laidOut()
	for range 1500 {
		l := parties(t, r)
		m := memory.Load(image)
		for range r.Intn(200) {
			p := l[r.Intn(4)]
			if p.done < len(p.steps) {
				do(t, m, p.steps[p.done])
				p.done++
			}
			if loose := m.Loose(); len(loose) > 0 && r.Intn(3) == 0 {
				m.Evict(loose[r.Intn(len(loose))])
			}
		}
		m.Crash(someKept(r))
		recoverAtLast(t, m, r)
		want := image
		for slot, p := range l {
			if there := m.Read(p.c[0].At) == p.c[0].V; there {
				want = with(want, p.c)
			} else if p.done >= p.sealed {
				t.Fatalf("slot %d: sealed, and not there", slot)
			}
		}
		if !reads(m.Image(), want) {
			t.Fatal("of one some are there, and some not")
		}
	}
}

// P7.2: stepped through without a crash they are there, and recovering finds nothing.
func TestNoCrash(t *testing.T) {
	for slot := range 4 {
		for _, n := range []int{1, 5, 120} {
			m := memory.Load(laidOut())
			steps, sealed, _ := seal.Steps(slot, 1, many(n))
			for i, s := range steps {
				if i < sealed && !slices.Equal(m.Image()[1288:], laidOut()[1288:]) {
					t.Fatal("changes are made ahead of their seal")
				}
				do(t, m, s)
			}
			calls := m.Calls()
			if k, e := seal.Recover(m); k != 0 || e != api.OK || m.Calls() != calls || len(m.Loose()) != 0 {
				t.Fatal(k, e, m.Loose())
			}
			m.Crash(nil)
			if !reads(m.Image(), with(laidOut(), many(n))) {
				t.Fatal("they aren't there")
			}
		}
	}
}
