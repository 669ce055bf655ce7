package words_test

import (
	"hash/fnv"
	"math"
	"slices"
	"strings"
	"testing"

	"escritoire/api"
	"escritoire/words"
)

const all = ^uint64(0)

// sample is words with all, no, single and mixed bits.
func sample() []uint64 {
	return []uint64{0, 1, 1 << 63, all, 0xaaaaaaaaaaaaaaaa, 0x5555555555555555, 0x0123456789abcdef, 0xfedcba9876543210}
}

// wrongFields is fields that may not be, those whose at + width wraps round among them.
func wrongFields() [][2]int {
	return [][2]int{
		{0, 0}, {0, -1}, {5, 0}, {63, 0}, {64, 0}, {64, 1}, {65, -1}, {65, 1}, {70, -10},
		{-1, 1}, {-1, 64}, {-1, 65}, {-8, 16}, {0, 65}, {1, 64}, {60, 5}, {63, 2}, {32, 33},
		{math.MinInt, 1}, {0, math.MinInt}, {math.MinInt, math.MinInt}, {math.MaxInt, 1},
		{0, math.MaxInt}, {1, math.MaxInt}, {math.MaxInt, math.MaxInt}, {math.MinInt, math.MaxInt},
		{math.MaxInt, math.MinInt}, {math.MinInt + 64, math.MaxInt}, {math.MaxInt, 64},
	}
}

// eachField calls f with each field that may be.
func eachField(f func(at, width int)) {
	for at := 0; at < 64; at++ {
		for width := 1; at+width <= 64; width++ {
			f(at, width)
		}
	}
}

// slowGet reads a field bit by bit.
func slowGet(w uint64, at, width int) uint64 {
	v := uint64(0)
	for i := width - 1; i >= 0; i-- {
		v = v*2 + w>>(at+i)&1
	}
	return v
}

// P1.1
func TestGetAnswersTheFieldBitByBit(t *testing.T) {
	eachField(func(at, width int) {
		for _, w := range sample() {
			want := slowGet(w, at, width)
			if v, e := words.Get(w, at, width); v != want || e != api.OK {
				t.Fatalf("Get(%x, %d, %d): %x %d, not %x", w, at, width, v, e, want)
			}
		}
	})
}

// P1.1
func TestFieldsOfExamples(t *testing.T) {
	for _, x := range []struct {
		w         uint64
		at, width int
		v, want   uint64
	}{
		{0, 4, 8, 255, 4080},
		{0, 0, 64, all, all},
		{all, 0, 64, 0, 0},
		{0, 0, 1, 1, 1},
		{0, 63, 1, 1, 1 << 63},
		{all, 63, 1, 0, all >> 1},
		{0xabcd, 4, 8, 0x12, 0xa12d},
		{7, 8, 56, 1<<56 - 1, all&^0xff | 7},
	} {
		if w, e := words.Put(x.w, x.at, x.width, x.v); w != x.want || e != api.OK {
			t.Errorf("Put(%x, %d, %d, %x): %x %d, not %x", x.w, x.at, x.width, x.v, w, e, x.want)
		}
		if v, e := words.Get(x.want, x.at, x.width); v != x.v || e != api.OK {
			t.Errorf("Get(%x, %d, %d): %x %d, not %x", x.want, x.at, x.width, v, e, x.v)
		}
	}
}

// P1.1, E0, R1 (ErrArg ahead of ErrRange), R2
func TestFieldsThatMayNotBe(t *testing.T) {
	for _, f := range wrongFields() {
		for _, w := range sample() {
			if v, e := words.Get(w, f[0], f[1]); v != 0 || e != api.ErrArg {
				t.Errorf("Get(%x, %d, %d): %x %d", w, f[0], f[1], v, e)
			}
			for _, v := range []uint64{0, 1, all} {
				if got, e := words.Put(w, f[0], f[1], v); got != 0 || e != api.ErrArg {
					t.Errorf("Put(%x, %d, %d, %x): %x %d", w, f[0], f[1], v, got, e)
				}
			}
		}
	}
}

// P1.1, R2
func TestPutOfAsManyBitsAndOneMore(t *testing.T) {
	eachField(func(at, width int) {
		most := all >> (64 - width)
		if w, e := words.Put(0, at, width, most); w != most<<at || e != api.OK {
			t.Errorf("Put(0, %d, %d, %x): %x %d", at, width, most, w, e)
		}
		if width == 64 {
			return
		}
		for _, v := range []uint64{most + 1, 1 << 63, all} {
			if w, e := words.Put(all, at, width, v); w != 0 || e != api.ErrRange {
				t.Errorf("Put(all, %d, %d, %x): %x %d", at, width, v, w, e)
			}
		}
	})
}

// P1.2
func TestWhatIsPutIsGotAndNoOtherBitChanges(t *testing.T) {
	eachField(func(at, width int) {
		most := all >> (64 - width)
		for _, w := range sample() {
			for _, x := range sample() {
				v := x & most
				got, e := words.Put(w, at, width, v)
				if e != api.OK || (got^w)&^(most<<at) != 0 {
					t.Fatalf("Put(%x, %d, %d, %x): %x %d", w, at, width, v, got, e)
				}
				if back, e := words.Get(got, at, width); back != v || e != api.OK {
					t.Fatalf("Get(%x, %d, %d): %x %d, not %x", got, at, width, back, e, v)
				}
			}
		}
	})
}

// manyBytes is n bytes, of all values where n is 256 or above.
func manyBytes(n int) string {
	b := make([]byte, n)
	for i := range b {
		b[i] = byte(i*7 + 255)
	}
	return string(b)
}

// P1.1
func TestTextLaysBytesFromTheLowestOn(t *testing.T) {
	for _, x := range []struct {
		s    string
		n    int
		want []uint64
	}{
		{"", 0, nil},
		{"", 1, []uint64{0}},
		{"", 3, []uint64{0, 0, 0}},
		{"ab", 1, []uint64{25185}},
		{"ab", 2, []uint64{25185, 0}},
		{"abcdefgh", 1, []uint64{0x6867666564636261}},
		{"abcdefghi", 2, []uint64{0x6867666564636261, 0x69}},
		{"\x00\xff", 1, []uint64{0xff00}},
		{"\xff\xff\xff\xff\xff\xff\xff\xff", 1, []uint64{all}},
		{"\u00e9", 1, []uint64{0xa9c3}},
	} {
		if l, e := words.Text(x.s, x.n); e != api.OK || !slices.Equal(l, x.want) {
			t.Errorf("Text(%q, %d): %x %d", x.s, x.n, l, e)
		}
	}
}

// P1.1
func TestTextBitByBit(t *testing.T) {
	for n := 0; n <= 64; n++ {
		s := manyBytes(8 * n)
		l, e := words.Text(s, n)
		if e != api.OK || len(l) != n {
			t.Fatalf("Text of %d bytes in %d words: %d words, %d", len(s), n, len(l), e)
		}
		for i := range len(s) {
			if v := slowGet(l[i/8], 8*(i%8), 8); v != uint64(s[i]) {
				t.Fatalf("byte %d of %d words: %x, not %x", i, n, v, s[i])
			}
		}
	}
}

// P1.1, R1, R2
func TestTextErrors(t *testing.T) {
	long := strings.Repeat("x", 600)
	for _, n := range []int{-1, -64, 65, 66, 1000, math.MinInt, math.MaxInt, math.MaxInt/8 + 1} {
		for _, s := range []string{"", "a", long} {
			if l, e := words.Text(s, n); len(l) != 0 || e != api.ErrArg {
				t.Errorf("Text of %d bytes in %d words: %d words, %d", len(s), n, len(l), e)
			}
		}
	}
	for n := 0; n <= 64; n++ {
		if l, e := words.Text(long[:8*n], n); len(l) != n || e != api.OK {
			t.Errorf("Text of %d bytes in %d words: %d words, %d", 8*n, n, len(l), e)
		}
		if l, e := words.Text(long[:8*n+1], n); len(l) != 0 || e != api.ErrRange {
			t.Errorf("Text of %d bytes in %d words: %d words, %d", 8*n+1, n, len(l), e)
		}
	}
}

// P1.1: the first n bytes, noughts among them, of any number of words.
func TestUntextAnswersTheFirstBytes(t *testing.T) {
	l := []uint64{0x6867666564636261, 0x00000000ff006a69}
	const s = "abcdefghij\x00\xff\x00\x00\x00\x00"
	for n := 0; n <= 16; n++ {
		if got, e := words.Untext(l, n); got != s[:n] || e != api.OK {
			t.Errorf("Untext of %d: %q %d", n, got, e)
		}
	}
	many := make([]uint64, 100)
	many[99] = 'z' << 56
	if got, e := words.Untext(many, 800); e != api.OK || got != strings.Repeat("\x00", 799)+"z" {
		t.Errorf("Untext of 100 words: %q %d", got, e)
	}
}

// P1.1, R2
func TestUntextErrors(t *testing.T) {
	for _, count := range []int{0, 1, 2, 64, 100} {
		l := slices.Repeat([]uint64{all}, count)
		for _, n := range []int{-1, -8, 8*count + 1, 8*count + 8, math.MinInt, math.MaxInt} {
			if s, e := words.Untext(l, n); s != "" || e != api.ErrArg {
				t.Errorf("Untext of %d words, %d: %q %d", count, n, s, e)
			}
		}
		if s, e := words.Untext(l, 8*count); len(s) != 8*count || e != api.OK {
			t.Errorf("Untext of %d words, all: %d bytes %d", count, len(s), e)
		}
	}
	if s, e := words.Untext(nil, 0); s != "" || e != api.OK {
		t.Errorf("Untext of none: %q %d", s, e)
	}
}

// P1.2
func TestTextsAreThereAndBack(t *testing.T) {
	for size := 0; size <= 512; size++ {
		s := manyBytes(size)
		for _, n := range []int{(size + 7) / 8, 64} {
			l, e := words.Text(s, n)
			if e != api.OK {
				t.Fatalf("Text of %d bytes in %d words: %d", size, n, e)
			}
			if back, e := words.Untext(l, size); back != s || e != api.OK {
				t.Fatalf("%d bytes by %d words aren't back: %d", size, n, e)
			}
			whole, _ := words.Untext(l, 8*n)
			if again, e := words.Text(whole, n); e != api.OK || !slices.Equal(again, l) {
				t.Fatalf("%d words by %d bytes aren't back: %d", n, 8*n, e)
			}
		}
	}
}

// R4, R6: what is handed in stays, what is answered is new each time.
func TestListsAreNewMemory(t *testing.T) {
	a, _ := words.Text("abc", 1)
	b, _ := words.Text("abc", 1)
	a[0] = 0
	if b[0] != 0x636261 {
		t.Errorf("two answers share memory: %x", b[0])
	}
	s, _ := words.Untext(b, 3)
	b[0] = 0
	if s != "abc" {
		t.Errorf("a text changed with its words: %q", s)
	}
	l := []uint64{1, 2}
	words.Untext(l, 16)
	words.Untext(l, 17)
	if !slices.Equal(l, []uint64{1, 2}) {
		t.Errorf("words that were handed in changed: %x", l)
	}
}

// P1.1
func TestHash(t *testing.T) {
	if h := words.Hash(""); h != 14695981039346656037 {
		t.Errorf("the empty text: %d", h)
	}
	if h := words.Hash("a"); h != 12638187200555641996 {
		t.Errorf("a: %d", h)
	}
	if words.Hash("ab") == words.Hash("ba") {
		t.Error("the order of bytes plays no part")
	}
	for size := 0; size <= 300; size++ {
		s := manyBytes(size)
		f := fnv.New64a()
		f.Write([]byte(s))
		if h := words.Hash(s); h != f.Sum64() {
			t.Fatalf("%d bytes: %d, not %d", size, h, f.Sum64())
		}
	}
}
