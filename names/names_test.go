package names_test

import (
	"hash/fnv"
	"math"
	"math/rand"
	"regexp"
	"slices"
	"strings"
	"testing"

	"escritoire/api"
	"escritoire/names"
)

const (
	name14 = "abcdefghijklmn"
	name15 = "abcdefghijklmno"
)

var (
	rightName = regexp.MustCompile(`\A[a-z0-9._-]{1,14}\z`)
	rightPath = regexp.MustCompile(`\A(/|(/[a-z0-9._-]{1,14})+)\z`)
)

// mayBeName is the chapter's rule of names, by a pattern.
func mayBeName(s string) bool {
	return rightName.MatchString(s) && s != "." && s != ".."
}

// mayBePath is the chapter's rule of paths, by a pattern.
func mayBePath(s string) bool {
	dots := strings.Contains(s+"/", "/./") || strings.Contains(s+"/", "/../")
	return len(s) <= 120 && rightPath.MatchString(s) && !dots
}

// rightPaths is paths that may be, with their names.
func rightPaths() map[string][]string {
	return map[string][]string{
		"/":                             nil,
		"/a":                            {"a"},
		"/a/b.c":                        {"a", "b.c"},
		"/a/a/a":                        {"a", "a", "a"},
		"/...":                          {"..."},
		"/.a/..a/a./-/_/0":              {".a", "..a", "a.", "-", "_", "0"},
		"/" + name14:                    {name14},
		"/" + name14 + "/a":             {name14, "a"},
		strings.Repeat("/"+name14, 8):   slices.Repeat([]string{name14}, 8),
		strings.Repeat("/a", 60):        slices.Repeat([]string{"a"}, 60),
		strings.Repeat("/abc", 30):      slices.Repeat([]string{"abc"}, 30),
		strings.Repeat("/a", 59) + "/b": append(slices.Repeat([]string{"a"}, 59), "b"),
	}
}

// wrongPaths is texts that are no paths that may be.
func wrongPaths() []string {
	return []string{
		"", "a", "a/b", "a/", ".", "//", "///", "/a/", "/a//", "//a", "/a//b", "/a/b/", " /a", "/ ", "/a b",
		"/.", "/..", "/a/.", "/a/..", "/./a", "/../a", "/a/../b", "/A", "/a/B", "/a\x00", "/\x00", "\x00", "/a\n", "/a\\b",
		"/\xff", "/\u00e9", "/a\u0131", "/" + name15, "/" + name15 + "/a", "/a/" + name15, "/" + name14 + "/" + name15,
		strings.Repeat("/"+name14, 8) + "/", strings.Repeat("/"+name14, 8) + "/a", strings.Repeat("/a", 61),
		strings.Repeat("/abc", 29) + "/abcd", strings.Repeat("/a", 58) + "/abcd", strings.Repeat("/abc", 31),
		strings.Repeat("a", 120), strings.Repeat("/", 120), strings.Repeat("/", 121), strings.Repeat("/a", 1<<20),
	}
}

// wrongNames is texts that are no names that may be.
func wrongNames() []string {
	return []string{
		"", ".", "..", name15, strings.Repeat(".", 15), strings.Repeat("a", 1<<20), "/", "/a", "a/", "a/b", "A", "aB", "Z",
		" ", "a ", " a", "a\x00", "\x00", "\n", "a\n", "\x7f", "\x80", "\xff", "a\xc3", "\u00e9", "\u0131", "\uff41", "+", "*", "a:b", "\\",
	}
}

// shortTexts calls f with each text of at most n of the given pieces.
func shortTexts(pieces []string, n int, f func(s string)) {
	var grow func(s string, left int)
	grow = func(s string, left int) {
		f(s)
		if left == 0 {
			return
		}
		for _, p := range pieces {
			grow(s+p, left-1)
		}
	}
	grow("", n)
}

// somePath is a path that may be, of any names.
func somePath(r *rand.Rand) string {
	const letters = "abyz0189.-_"
	path := ""
	for range 1 + r.Intn(20) {
		b := make([]byte, 1+r.Intn(1+r.Intn(14)))
		for i := range b {
			b[i] = letters[r.Intn(len(letters))]
		}
		if name := string(b); name != "." && name != ".." && len(path)+1+len(name) <= 120 {
			path += "/" + name
		}
	}
	if path == "" {
		return "/"
	}
	return path
}

// P4.1
func TestRightOfEdges(t *testing.T) {
	for _, s := range []string{"a", "z", "0", "9", "-", "_", "...", "....", ".a", "a.", "..a", "a..", "-.", "_.", "b.c", name14, strings.Repeat(".", 14), strings.Repeat("_", 14)} {
		if !names.Right(s) {
			t.Errorf("%q isn't right", s)
		}
	}
	for _, s := range wrongNames() {
		if names.Right(s) {
			t.Errorf("%q is right", s)
		}
	}
}

// P4.1: of each byte, alone and ahead of, behind and between others.
func TestRightOfEachByte(t *testing.T) {
	const may = "abcdefghijklmnopqrstuvwxyz0123456789.-_"
	for b := range 256 {
		c := string([]byte{byte(b)})
		want := strings.Contains(may, c)
		for _, s := range []string{c + "a", "a" + c, "a" + c + "a", c + name14[1:], name14[1:] + c, c + c + c} {
			if names.Right(s) != want {
				t.Errorf("Right(%q): %v", s, !want)
			}
		}
		if names.Right(c) != (want && c != ".") {
			t.Errorf("Right(%q): %v", c, names.Right(c))
		}
	}
}

// P4.1
func TestRightOfEachLength(t *testing.T) {
	for n := range 40 {
		if got := names.Right(strings.Repeat("x", n)); got != (n >= 1 && n <= 14) {
			t.Errorf("%d bytes: %v", n, got)
		}
	}
}

// P4.1
func TestSplitOfPathsThatMayBe(t *testing.T) {
	for path, want := range rightPaths() {
		if l, e := names.Split(path); e != api.OK || !slices.Equal(l, want) {
			t.Errorf("Split(%q): %q %d", path, l, e)
		}
	}
}

// P4.1, R1 (ErrName ahead of ErrArg), R2
func TestPathsThatMayNotBe(t *testing.T) {
	for _, path := range wrongPaths() {
		if l, e := names.Split(path); e != api.ErrName || len(l) != 0 {
			t.Errorf("Split(%.130q): %q %d", path, l, e)
		}
		if up, last, e := names.Parent(path); e != api.ErrName || up != "" || last != "" {
			t.Errorf("Parent(%.130q): %q %q %d", path, up, last, e)
		}
	}
}

// P4.1: of paths of 118 to 123 bytes.
func TestSplitAtTheLongestPath(t *testing.T) {
	for n := 118; n <= 123; n++ {
		path := strings.Repeat("/abcdefghi", 11)
		path += "/" + strings.Repeat("x", n-len(path)-1)
		l, e := names.Split(path)
		if n <= 120 && (e != api.OK || len(l) != 12) || n > 120 && (e != api.ErrName || len(l) != 0) {
			t.Errorf("a path of %d bytes: %q %d", len(path), l, e)
		}
		parts := strings.Split(path[1:], "/")
		back, e := names.Join(parts)
		if n <= 120 && (e != api.OK || back != path) || n > 120 && (e != api.ErrName || back != "") {
			t.Errorf("names of a path of %d bytes: %q %d", len(path), back, e)
		}
	}
}

// P4.1, P4.2: each short text, of bytes that may be and some that may not, held against the pattern.
func TestEachShortPath(t *testing.T) {
	shortTexts([]string{"/", "a", ".", "A", name14[1:]}, 6, func(s string) {
		may := mayBePath(s)
		l, e := names.Split(s)
		if may != (e == api.OK) || !may && (e != api.ErrName || len(l) != 0) {
			t.Fatalf("Split(%q): %q %d", s, l, e)
		}
		if !may {
			return
		}
		var want []string
		if s != "/" {
			want = strings.Split(s[1:], "/")
		}
		if !slices.Equal(l, want) {
			t.Fatalf("Split(%q): %q", s, l)
		}
		if back, e := names.Join(l); back != s || e != api.OK {
			t.Fatalf("%q isn't back: %q %d", s, back, e)
		}
	})
}

// P4.1: each short text as a name.
func TestEachShortName(t *testing.T) {
	shortTexts([]string{"/", "a", ".", "-", "\xff", name14[1:]}, 5, func(s string) {
		if names.Right(s) != mayBeName(s) {
			t.Fatalf("Right(%q): %v", s, names.Right(s))
		}
		path, e := names.Join([]string{s})
		if mayBeName(s) && (e != api.OK || path != "/"+s) || !mayBeName(s) && (e != api.ErrName || path != "") {
			t.Fatalf("Join of %q: %q %d", s, path, e)
		}
	})
}

// P4.1
func TestJoinOfNamesThatMayBe(t *testing.T) {
	for want, l := range rightPaths() {
		if path, e := names.Join(l); e != api.OK || path != want {
			t.Errorf("Join(%q): %q %d", l, path, e)
		}
	}
	if path, e := names.Join([]string{}); e != api.OK || path != "/" {
		t.Errorf("Join of none: %q %d", path, e)
	}
}

// P4.1, R2: a name that may not be alone, first, in the middle, last, in short lists and in the longest.
func TestJoinOfNamesThatMayNotBe(t *testing.T) {
	long := slices.Repeat([]string{"a"}, 60)
	for _, s := range wrongNames() {
		for _, l := range [][]string{
			{s}, {s, "a"}, {"a", s}, {"a", s, "b"}, {s, s},
			append([]string{s}, long...), append(slices.Clone(long), s), append(slices.Clone(long[:59]), s),
		} {
			if path, e := names.Join(l); e != api.ErrName || path != "" {
				t.Errorf("Join of %d names with %.20q: %q %d", len(l), s, path, e)
			}
		}
	}
}

// P4.1, R2
func TestJoinOfTooManyNames(t *testing.T) {
	for _, l := range [][]string{
		slices.Repeat([]string{"a"}, 61),
		slices.Repeat([]string{"a"}, 1<<20),
		slices.Repeat([]string{"abc"}, 31),
		append(slices.Repeat([]string{"abc"}, 29), "abcd"),
		append(slices.Repeat([]string{name14}, 8), "a"),
		slices.Repeat([]string{name14}, 9),
	} {
		if path, e := names.Join(l); e != api.ErrName || path != "" {
			t.Errorf("Join of %d names: %q %d", len(l), path, e)
		}
	}
}

// P4.1
func TestParent(t *testing.T) {
	for _, x := range [][3]string{
		{"/a", "/", "a"},
		{"/a/b.c", "/a", "b.c"},
		{"/a/b/a", "/a/b", "a"},
		{"/...", "/", "..."},
		{"/.../...", "/...", "..."},
		{"/" + name14, "/", name14},
		{strings.Repeat("/a", 60), strings.Repeat("/a", 59), "a"},
		{strings.Repeat("/"+name14, 8), strings.Repeat("/"+name14, 7), name14},
	} {
		if up, last, e := names.Parent(x[0]); up != x[1] || last != x[2] || e != api.OK {
			t.Errorf("Parent(%q): %q %q %d", x[0], up, last, e)
		}
	}
	if up, last, e := names.Parent("/"); up != "" || last != "" || e != api.ErrArg {
		t.Errorf("Parent of /: %q %q %d", up, last, e)
	}
}

// P4.1
func TestUnder(t *testing.T) {
	for _, x := range []struct {
		a, b string
		want bool
	}{
		{"/", "/", true},
		{"/", "/a", true},
		{"/", "/a/b", true},
		{"/a", "/", false},
		{"/a", "/a", true},
		{"/a", "/a/b", true},
		{"/a", "/a/a", true},
		{"/a/b", "/a", false},
		{"/a/b", "/a/b/c/d", true},
		{"/a", "/ab", false},
		{"/ab", "/a", false},
		{"/a", "/ab/c", false},
		{"/a/b", "/a/bc", false},
		{"/a/b", "/a/c", false},
		{"/b", "/a/b", false},
		{"/a/b", "/c/b", false},
		{"/a", "/a.b", false},
		{"/a", "/a-", false},
		{strings.Repeat("/a", 59), strings.Repeat("/a", 60), true},
		{strings.Repeat("/a", 60), strings.Repeat("/a", 59), false},
		{"/a", strings.Repeat("/a", 61), false},
		{"", "", false},
		{"", "/a", false},
		{"a", "/a", false},
		{"a", "a", false},
		{"/a/", "/a/b", false},
		{"/a", "/a/", false},
		{"/a", "/a//b", false},
		{"/a", "/a/B", false},
		{"/a", "/a/..", false},
	} {
		if got := names.Under(x.a, x.b); got != x.want {
			t.Errorf("Under(%q, %q): %v", x.a, x.b, got)
		}
	}
}

// P4.1: none that may not be is under any, nor is any under it.
func TestUnderOfPathsThatMayNotBe(t *testing.T) {
	for _, wrong := range wrongPaths() {
		if names.Under(wrong, wrong) {
			t.Errorf("%.130q is under itself", wrong)
		}
		for right := range rightPaths() {
			if names.Under(right, wrong) || names.Under(wrong, right) {
				t.Errorf("Under(%q, %.130q), or the other way", right, wrong)
			}
		}
	}
}

// P4.1: of each two short paths, as texts with a / behind.
func TestUnderOfEachShortPath(t *testing.T) {
	var all []string
	shortTexts([]string{"/", "a", "b"}, 5, func(s string) { all = append(all, s) })
	behind := func(s string) string { return strings.TrimSuffix(s, "/") + "/" }
	for _, a := range all {
		for _, b := range all {
			want := mayBePath(a) && mayBePath(b) && strings.HasPrefix(behind(b), behind(a))
			if got := names.Under(a, b); got != want {
				t.Fatalf("Under(%q, %q): %v", a, b, got)
			}
		}
	}
}

// P4.2
func TestPathsAreThereAndBackAndUnderTheirParents(t *testing.T) {
	r := rand.New(rand.NewSource(1))
	for range 5000 {
		path := somePath(r)
		l, e := names.Split(path)
		if e != api.OK {
			t.Fatalf("Split(%q): %d", path, e)
		}
		if back, e := names.Join(l); back != path || e != api.OK {
			t.Fatalf("%q isn't back: %q %d", path, back, e)
		}
		if path == "/" {
			continue
		}
		up, last, e := names.Parent(path)
		if e != api.OK || last != l[len(l)-1] {
			t.Fatalf("Parent(%q): %q %q %d", path, up, last, e)
		}
		if above, e := names.Split(up); e != api.OK || !slices.Equal(above, l[:len(l)-1]) {
			t.Fatalf("names of %q, the parent of %q: %q %d", up, path, above, e)
		}
		if !names.Under(up, path) || names.Under(path, up) || !names.Under(path, path) {
			t.Fatalf("%q isn't under its parent alone", path)
		}
	}
}

// P4.2: what is joined is split into the same names, whatever the names are.
func TestNamesAreThereAndBack(t *testing.T) {
	r := rand.New(rand.NewSource(2))
	some := []string{"a", "b.c", "...", "-", "_", name14, "0", ".", "A", "", "a/b", name15}
	for range 20000 {
		l := make([]string, r.Intn(12))
		good, size := true, 0
		for i := range l {
			l[i] = some[r.Intn(7)]
			if r.Intn(20) == 0 {
				l[i] = some[r.Intn(len(some))]
			}
			good = good && mayBeName(l[i])
			size += 1 + len(l[i])
		}
		path, e := names.Join(l)
		if !good || size > 120 {
			if e != api.ErrName || path != "" {
				t.Fatalf("Join(%q): %q %d", l, path, e)
			}
			continue
		}
		if back, be := names.Split(path); e != api.OK || be != api.OK || !slices.Equal(back, l) {
			t.Fatalf("%q by %q: %q %d %d", l, path, back, e, be)
		}
	}
}

// P4.1: none on either side, on both; names and lists that no path could have.
func TestLead(t *testing.T) {
	many := slices.Repeat([]string{"a"}, 100)
	for _, x := range []struct{ target, rest, want []string }{
		{nil, nil, nil},
		{[]string{}, []string{}, nil},
		{[]string{"a"}, nil, []string{"a"}},
		{nil, []string{"b", "c"}, []string{"b", "c"}},
		{[]string{"a"}, []string{"b", "c"}, []string{"a", "b", "c"}},
		{[]string{"a", "b"}, []string{"a", "b"}, []string{"a", "b", "a", "b"}},
		{[]string{"", ".."}, []string{"A", "/", name15}, []string{"", "..", "A", "/", name15}},
		{many, many, slices.Repeat([]string{"a"}, 200)},
	} {
		if l := names.Lead(x.target, x.rest); !slices.Equal(l, x.want) {
			t.Errorf("Lead(%q, %q): %q", x.target, x.rest, l)
		}
	}
}

// P4.1, R4: Lead leaves its arguments alone, and what lies behind them, and shares no memory with them.
func TestLeadSharesNothing(t *testing.T) {
	for targets := range 4 {
		for rests := range 4 {
			given := [2][]string{{"a", "b", "c", "spare", "spare"}, {"d", "e", "f", "spare", "spare"}}
			before := [2][]string{slices.Clone(given[0]), slices.Clone(given[1])}
			l := names.Lead(given[0][:targets], given[1][:rests])
			want := slices.Clone(l)
			changed := append(names.Lead(given[0][:targets], given[1][:rests]), "more", "more")
			for i := range changed {
				changed[i] = "changed"
			}
			if !slices.Equal(given[0], before[0]) || !slices.Equal(given[1], before[1]) {
				t.Errorf("Lead of %d and %d changed what it was given: %q", targets, rests, given)
			}
			for i := range 5 {
				given[0][i], given[1][i] = "other", "other"
			}
			if !slices.Equal(l, want) {
				t.Errorf("Lead of %d and %d changed with what it was given: %q", targets, rests, l)
			}
		}
	}
}

// P4.1, R4: Split's lists are new each time, and Join leaves its list alone.
func TestListsAreNotShared(t *testing.T) {
	a, _ := names.Split("/a/b")
	b, _ := names.Split("/a/b")
	a[0], a[1] = "x", "y"
	if c, _ := names.Split("/a/b"); !slices.Equal(b, []string{"a", "b"}) || !slices.Equal(c, b) {
		t.Errorf("answers share memory: %q %q", b, c)
	}
	for _, l := range [][]string{{"a", "b"}, {"a", "B"}, slices.Repeat([]string{"a"}, 61)} {
		before := slices.Clone(l)
		names.Join(l)
		if !slices.Equal(l, before) {
			t.Errorf("Join changed %q to %q", before, l)
		}
	}
}

// P4.1: hashes above 2^63 among them; n of 1, 0, below 0, the greatest and the least.
func TestBucket(t *testing.T) {
	r := rand.New(rand.NewSource(3))
	all := append(wrongNames(), "a", "b", "b.c", name14, "x1", "x2", "x3")
	for range 200 {
		all = append(all, somePath(r))
	}
	for _, s := range all {
		f := fnv.New64a()
		f.Write([]byte(s))
		for _, n := range []int{1, 2, 3, 4, 5, 7, 8, 10, 16, 24, 96, 1000, math.MaxInt32, 1 << 40, 1 << 62, math.MaxInt - 1, math.MaxInt} {
			if got := names.Bucket(s, n); got < 0 || uint64(got) != f.Sum64()%uint64(n) {
				t.Fatalf("Bucket(%.20q, %d): %d", s, n, got)
			}
		}
		for _, n := range []int{0, -1, -2, -8, math.MinInt, math.MinInt + 1} {
			if got := names.Bucket(s, n); got != 0 {
				t.Fatalf("Bucket(%.20q, %d): %d", s, n, got)
			}
		}
	}
	if got := names.Bucket("a", 10); got != 6 {
		t.Errorf("Bucket of a, 10: %d", got)
	}
	if got := names.Bucket("", 100); got != 37 {
		t.Errorf("Bucket of no bytes, 100: %d", got)
	}
}

// P4.1: the chapter's examples.
func TestExamples(t *testing.T) {
	if l, e := names.Split("/a/b.c"); e != api.OK || !slices.Equal(l, []string{"a", "b.c"}) {
		t.Error(l, e)
	}
	if up, last, e := names.Parent("/a/b.c"); e != api.OK || up != "/a" || last != "b.c" {
		t.Error(up, last, e)
	}
}
