package prove_test

import (
	"crypto/sha256"
	"encoding/hex"
	"fmt"
	"math"
	"reflect"
	"slices"
	"strings"
	"testing"

	"affiant/api"
	"affiant/kv"
	"affiant/prove"
	"affiant/sha"
	"affiant/store"
	"affiant/tree"
	"affiant/vint"
)

// Limits of the document, in its own numbers.
const (
	mostPairs = 30
	mostKey   = 16
	mostValue = 24
)

// tagged, leafOf, pathsOf: what a path is, by the library's hash, and by levels of the tree from the leaves on.

func tagged(tag byte, parts ...[]byte) []byte {
	h := sha256.Sum256(append([]byte{tag}, slices.Concat(parts...)...))
	return h[:]
}

func leafOf(p api.Pair) []byte {
	return slices.Concat([]byte{byte(len(p.Key))}, []byte(p.Key), []byte{byte(len(p.Value))}, []byte(p.Value))
}

// pathsOf is the path of each pair of a right row.
func pathsOf(l []api.Pair) [][]api.Hash {
	all := make([][]api.Hash, len(l))
	var level [][]byte
	for _, p := range l {
		level = append(level, tagged(0, leafOf(p)))
	}
	for step := 0; len(level) > 1; step++ {
		for i := range all {
			if other := i>>step ^ 1; other < len(level) {
				all[i] = append(all[i], api.Hash(level[other]))
			}
		}
		var next [][]byte
		for two := range slices.Chunk(level, 2) {
			if len(two) == 2 {
				next = append(next, tagged(1, two...))
			} else {
				next = append(next, two[0])
			}
		}
		level = next
	}
	return all
}

// proofOf is the proof of those pairs of l of which is true, which stand side by side.
func proofOf(l []api.Pair, paths [][]api.Hash, is func(i int) bool) api.Proof {
	want := api.Proof{Count: len(l)}
	for i, p := range l {
		if !is(i) {
			continue
		}
		if len(want.Pairs) == 0 {
			want.First = i
		}
		want.Pairs, want.Paths = append(want.Pairs, p), append(want.Paths, paths[i])
	}
	return want
}

func someOf(l []api.Pair, paths [][]api.Hash, from, to int) api.Proof {
	return proofOf(l, paths, func(i int) bool { return i >= from && i < to })
}

// rangeOf: the pairs in the range, the last one of those below its start, and the first one of those beyond it.
func rangeOf(l []api.Pair, paths [][]api.Hash, start, end string) api.Proof {
	last, first := -1, -1
	for i, p := range l {
		if p.Key < start {
			last = i
		}
		if p.Key >= start && p.Key >= end && first < 0 {
			first = i
		}
	}
	return proofOf(l, paths, func(i int) bool {
		return l[i].Key >= start && l[i].Key < end || i == last || i == first
	})
}

func sizeOf(p api.Proof) int {
	return len(p.Pairs) + len(slices.Concat(p.Paths...))
}

func placeOf(l []api.Pair, key string) int {
	return slices.IndexFunc(l, func(p api.Pair) bool { return p.Key == key })
}

func same(a, b api.Proof) bool {
	return a.Count == b.Count && a.First == b.First && slices.Equal(a.Pairs, b.Pairs) && slices.EqualFunc(a.Paths, b.Paths, slices.Equal[[]api.Hash])
}

func short(p api.Proof) string {
	return fmt.Sprintf("%d of %d from %d on, %.200q, paths %.60x", len(p.Pairs), p.Count, p.First, p.Pairs, p.Paths)
}

// asks holds all that may be asked of keys, and Size, against what the promises say.
func asks(t *testing.T, l []api.Pair, keys []string) {
	t.Helper()
	paths := pathsOf(l)
	for _, key := range keys {
		at := placeOf(l, key)
		exist, there := prove.Exist(l, key)
		absent, not := prove.Absent(l, key)
		var wantExist, wantAbsent api.Proof
		if at >= 0 {
			wantExist = someOf(l, paths, at, at+1)
		} else {
			wantAbsent = rangeOf(l, paths, key, key)
		}
		if there != (at >= 0) || !same(exist, wantExist) {
			t.Fatalf("Exist of %q, %.40q: %s, %v, not %s", l, key, short(exist), there, short(wantExist))
		}
		if not != (at < 0) || !same(absent, wantAbsent) {
			t.Fatalf("Absent of %q, %.40q: %s, %v, not %s", l, key, short(absent), not, short(wantAbsent))
		}
		for _, end := range keys {
			got, want := prove.Range(l, key, end), rangeOf(l, paths, key, end)
			if !same(got, want) || prove.Size(got) != sizeOf(want) {
				t.Fatalf("Range of %q, %.40q to %.40q: %s, not %s", l, key, end, short(got), short(want))
			}
		}
	}
}

// many is a row of n pairs, right if n is mostPairs at most: between its keys there is room.
func many(n int) []api.Pair {
	l := make([]api.Pair, n)
	for i := range l {
		l[i] = api.Pair{Key: string([]byte{'b' + byte(i/8), 'b' + 2*byte(i%8)}), Value: strings.Repeat("v", i%(mostValue+1))}
	}
	return l
}

// wide is a row of as many pairs as may be, each as long as may be.
func wide() []api.Pair {
	l := make([]api.Pair, mostPairs)
	for i := range l {
		l[i] = api.Pair{Key: fmt.Sprintf("%016d", i), Value: fmt.Sprintf("%024d", i)}
	}
	return l
}

// edges: keys, rising: each byte's ends, such as others begin with, and one of mostKey bytes.
var edges = []string{"\x00", "\x00\x00", "a", "a\x00", "aaaaaaaaaaaaaaaa", "\x7f", "\x80", "\xff"}

// asked: the edges, and keys between, below, above them; some are none that a pair may have.
func asked() []string {
	return append(slices.Clone(edges), "", "\x01", "A", "a\x00b", "aa", "aaaaaaaaaaaaaaab", "b", "\x7f\xff", "\xfe", "\xff\x00",
		strings.Repeat("a", mostKey-1), strings.Repeat("a", mostKey+1), strings.Repeat("\xff", 70000))
}

// eachRow calls f with each row that there is of the edges: 256 of them.
func eachRow(f func(l []api.Pair)) {
	for bits := range 1 << len(edges) {
		var l []api.Pair
		for i, key := range edges {
			if bits>>i&1 == 1 {
				l = append(l, api.Pair{Key: key, Value: strings.Repeat("v", i)})
			}
		}
		f(l)
	}
}

// places: all of a row of n pairs, and such as are none, some of them places but for bits that a narrow number hasn't.
func places(n int) []int {
	ps := []int{math.MinInt, math.MinInt + 3, -1<<32 + 1, -255, -31, -2, -1, 257, 1<<16 + 2, 1<<32 + 1, math.MaxInt - 1, math.MaxInt}
	for i := range n + 3 {
		ps = append(ps, i)
	}
	return ps
}

// P8.1

func TestSomeOfEachPlace(t *testing.T) {
	if api.MaxPairs != mostPairs || api.MaxKey != mostKey || api.MaxValue != mostValue {
		t.Fatal("limits")
	}
	for n := range mostPairs + 1 {
		l := many(n)
		paths := pathsOf(l)
		for _, from := range places(n) {
			for _, to := range places(n) {
				got, want := prove.Some(l, from, to), someOf(l, paths, from, to)
				if !same(got, want) {
					t.Fatalf("%d pairs, %d to %d: %s, not %s", n, from, to, short(got), short(want))
				}
				if size := prove.Size(got); size != sizeOf(want) {
					t.Fatalf("%d pairs, %d to %d: Size %d, not %d", n, from, to, size, sizeOf(want))
				}
			}
		}
	}
}

func TestKnownCuts(t *testing.T) {
	l := many(4)
	for _, c := range []struct{ from, to, first, end int }{
		{0, 4, 0, 4}, {1, 3, 1, 3}, {-7, 2, 0, 2}, {-7, 1, 0, 1}, {2, 70, 2, 4}, {-7, 70, 0, 4}, {3, 4, 3, 4}, {3, 5, 3, 4}, {-1, 0, 0, 0},
		{2, 2, 0, 0}, {3, 2, 0, 0}, {4, 4, 0, 0}, {4, 9, 0, 0}, {9, 70, 0, 0}, {70, 9, 0, 0}, {-9, -7, 0, 0}, {0, 0, 0, 0}, {4, 0, 0, 0}, {3, -1, 0, 0},
	} {
		got := prove.Some(l, c.from, c.to)
		if got.Count != 4 || got.First != c.first || !slices.Equal(got.Pairs, l[c.first:c.end]) || len(got.Paths) != c.end-c.first {
			t.Errorf("%d to %d: %s", c.from, c.to, short(got))
		}
	}
}

func hexOf(paths [][]api.Hash) string {
	var parts []string
	for _, path := range paths {
		var hashes []string
		for _, h := range path {
			hashes = append(hashes, hex.EncodeToString(h[:]))
		}
		parts = append(parts, strings.Join(hashes, " "))
	}
	return strings.Join(parts, ", ")
}

// The paths of each row have been worked out by another program.
func TestKnownPaths(t *testing.T) {
	for _, c := range []struct {
		l    []api.Pair
		want string
	}{
		{nil, ""},
		{[]api.Pair{{Key: "a", Value: "1"}}, ""},
		{[]api.Pair{{Key: "\x00", Value: "\xff"}, {Key: "\x80"}},
			"fa41366ac532d37b6e4687762f5b62e98a2df075c55528a4b5f8901fcb62ff89" +
				", 3f32c70699c867cfee90130ad81d0fb4b9b98517d917c55ba60ed5c0710264c9"},
		{[]api.Pair{{Key: "a", Value: "1"}, {Key: "c", Value: "3"}, {Key: "e", Value: "5"}},
			"963e2619c0e799bebc17f6856ab1bc7781b2c72cf5fc0dc3462ac465edd0c327 23febf9894b355196e9374264437b8d542ac973c71e2ec960120e4bb716eb04f" +
				", 284e4b8ddd0e5439923bda6313470dcba69b9dd22bbd76998f82aa8ebd869dd4 23febf9894b355196e9374264437b8d542ac973c71e2ec960120e4bb716eb04f" +
				", e6f170ab22edd8d36062e9617321a76765a7b7a61740bdf40db4c84d6760ec04"},
	} {
		if got := hexOf(prove.Some(c.l, 0, len(c.l)).Paths); got != c.want {
			t.Errorf("%q: %s", c.l, got)
		}
	}
	whole := prove.Some(wide(), 0, mostPairs)
	var all []byte
	for _, h := range slices.Concat(whole.Paths...) {
		all = append(all, h[:]...)
	}
	if sum := sha256.Sum256(all); hex.EncodeToString(sum[:]) != "bc654b8e842099d1de05f45c11dc4d1a21b50f3a88b84ec622d48df7a86c3971" {
		t.Errorf("%x", sum)
	}
	if size := prove.Size(whole); size != 30+148 {
		t.Error(size)
	}
}

// Each pair's path leads from its place to the one root that the store has of that row.
func TestPathsLeadToTheRoot(t *testing.T) {
	for n := 1; n <= mostPairs; n++ {
		for _, l := range [][]api.Pair{many(n), wide()[:n]} {
			root := store.Root(l)
			for from := range n {
				p := prove.Some(l, from, n)
				for i, path := range p.Paths {
					top, ok := tree.Up(kv.Leaf(p.Pairs[i]), p.First+i, p.Count, path)
					if !ok || sha.Tagged('S', vint.Put(p.Count), top[:]) != root {
						t.Errorf("%d from %d of %d: %x, %v", i, from, n, top, ok)
					}
				}
			}
		}
	}
}

// A path is that among all pairs of the row, however few of them are shown.
func TestPathsHangOnAllPairs(t *testing.T) {
	for n := 2; n <= mostPairs; n++ {
		for i := range n {
			before := prove.Some(many(n), i, i+1)
			for k := range n {
				l := many(n)
				l[k].Value = "other"
				after := prove.Some(l, i, i+1)
				if slices.Equal(before.Paths[0], after.Paths[0]) != (i == k) {
					t.Errorf("%d of %d, with another value at %d", i, n, k)
				}
			}
		}
	}
}

func TestSizeOfAnyProof(t *testing.T) {
	hashes := make([]api.Hash, 40)
	for i, c := range []struct {
		p    api.Proof
		want int
	}{
		{api.Proof{}, 0},
		{api.Proof{Count: 7, First: 3}, 0},
		{api.Proof{Count: -1, First: math.MinInt}, 0},
		{api.Proof{Pairs: []api.Pair{}, Paths: [][]api.Hash{}}, 0},
		{api.Proof{Pairs: make([]api.Pair, 1)}, 1},
		{api.Proof{Pairs: make([]api.Pair, 300, 400)}, 300},
		{api.Proof{Paths: make([][]api.Hash, 9)}, 0},
		{api.Proof{Paths: [][]api.Hash{{}, nil, {}}}, 0},
		{api.Proof{Paths: [][]api.Hash{hashes[:3], nil, hashes[:2]}}, 5},
		{api.Proof{Pairs: make([]api.Pair, 2), Paths: [][]api.Hash{hashes[:3], hashes[:3], hashes[:1]}}, 9},
		{api.Proof{Pairs: make([]api.Pair, 4), Paths: [][]api.Hash{hashes[:1]}}, 5},
		{api.Proof{Count: 2, Pairs: make([]api.Pair, 2), Paths: [][]api.Hash{hashes[:1], hashes}}, 43},
		{api.Proof{Pairs: make([]api.Pair, 1000), Paths: slices.Repeat([][]api.Hash{hashes}, 5000)}, 201000},
	} {
		if got := prove.Size(c.p); got != c.want {
			t.Errorf("%d: %d, not %d", i, got, c.want)
		}
	}
}

// P8.2

// The document's own run.
func TestTheRun(t *testing.T) {
	l := []api.Pair{{Key: "a", Value: "1"}, {Key: "c", Value: "3"}, {Key: "e", Value: "5"}}
	if p, ok := prove.Absent(l, "c"); ok || !same(p, api.Proof{}) {
		t.Errorf("%s, %v", short(p), ok)
	}
	if p, ok := prove.Absent(l, "b"); !ok || p.First != 0 || !slices.Equal(p.Pairs, l[:2]) {
		t.Errorf("%s, %v", short(p), ok)
	}
	if p := prove.Range(l, "b", "d"); p.First != 0 || !slices.Equal(p.Pairs, l) {
		t.Error(short(p))
	}
}

func TestKeysOfEachRowOfTheEdges(t *testing.T) {
	keys := asked()
	eachRow(func(l []api.Pair) { asks(t, l, keys) })
}

func TestKeysOfManyPairs(t *testing.T) {
	for _, n := range []int{0, 1, 2, 3, 4, 5, 8, 9, 16, 17, 29, mostPairs} {
		var keys []string
		for i, p := range many(mostPairs) {
			if i < 3 || i%8 == 0 || i > 27 {
				keys = append(keys, p.Key[:1], p.Key, p.Key+"\x00")
			}
		}
		asks(t, many(n), append(keys, "", "a", "\xff"))
	}
	asks(t, wide(), []string{"", wide()[0].Key, wide()[1].Key, wide()[15].Key, wide()[29].Key, "0000000000000000\x00", "00000000000000125", "1"})
}

func TestKnownRanges(t *testing.T) {
	l := []api.Pair{{Key: "b", Value: "1"}, {Key: "d"}, {Key: "f", Value: "3"}, {Key: "h", Value: "4"}, {Key: "j", Value: "5"}}
	for _, c := range []struct {
		start, end string
		from, to   int
	}{
		{"", "", 0, 1}, {"", "a", 0, 1}, {"", "b", 0, 1}, {"", "b\x00", 0, 2}, {"", "z", 0, 5}, {"a", "c", 0, 2}, {"b", "b", 0, 1}, {"b", "d", 0, 2},
		{"b\x00", "d", 0, 2}, {"c", "c", 0, 2}, {"c", "d", 0, 2}, {"d", "d", 0, 2}, {"d", "f", 0, 3}, {"d", "e", 0, 3}, {"e", "e", 1, 3}, {"e", "g", 1, 4},
		{"e", "h", 1, 4}, {"f", "h", 1, 4}, {"f", "j", 1, 5}, {"g", "k", 2, 5}, {"h", "j", 2, 5}, {"h", "j\x00", 2, 5}, {"i", "j", 3, 5}, {"j", "j", 3, 5},
		{"j", "z", 3, 5}, {"j\x00", "z", 4, 5}, {"k", "k", 4, 5}, {"z", "\xff", 4, 5},
		// Where the end is below the start, it counts as the start.
		{"z", "a", 4, 5}, {"h", "a", 2, 4}, {"g", "c", 2, 4}, {"d", "", 0, 2}, {"b", "a", 0, 1}, {"a", "", 0, 1}, {"j", "b", 3, 5},
	} {
		got := prove.Range(l, c.start, c.end)
		if got.Count != 5 || got.First != c.from || !slices.Equal(got.Pairs, l[c.from:c.to]) || !same(got, prove.Some(l, c.from, c.to)) {
			t.Errorf("%q to %q: %s", c.start, c.end, short(got))
		}
	}
}

// What a range's proof shows is enough to tell the range: either it goes to the row's end, or a neighbour bounds it.
func TestRangesAreBounded(t *testing.T) {
	keys := asked()
	eachRow(func(l []api.Pair) {
		for _, start := range keys {
			for _, end := range keys {
				p := prove.Range(l, start, end)
				if len(l) == 0 {
					if !same(p, api.Proof{}) {
						t.Fatal(short(p))
					}
					continue
				}
				first, last := p.Pairs[0].Key, p.Pairs[len(p.Pairs)-1].Key
				if p.First > 0 && first >= start || p.First+len(p.Pairs) < p.Count && (last < start || last < end) {
					t.Fatalf("%q, %.40q to %.40q: %s", l, start, end, short(p))
				}
				if !slices.Equal(kv.Range(p.Pairs, start, end), kv.Range(l, start, end)) {
					t.Fatalf("%q, %.40q to %.40q: %s", l, start, end, short(p))
				}
			}
		}
	})
}

// An absent key's proof is its neighbours: of a row that isn't empty one or two pairs, with no place between them.
func TestAbsentKeysHaveNeighbours(t *testing.T) {
	for n := range mostPairs + 1 {
		l := many(n)
		for i := range n + 1 {
			key := "a"
			if i > 0 {
				key = l[i-1].Key + "\x00"
			}
			p, ok := prove.Absent(l, key)
			if !ok || p.Count != n || !slices.Equal(p.Pairs, l[max(i-1, 0):min(i+1, n)]) || p.First != max(i-1, 0) {
				t.Errorf("ahead of %d of %d: %s, %v", i, n, short(p), ok)
			}
			if p, ok := prove.Exist(l, key); ok || !same(p, api.Proof{}) {
				t.Errorf("ahead of %d of %d: %s, %v", i, n, short(p), ok)
			}
		}
		for i, q := range l {
			p, ok := prove.Exist(l, q.Key)
			if !ok || p.Count != n || p.First != i || !slices.Equal(p.Pairs, l[i:i+1]) || len(p.Paths) != 1 {
				t.Errorf("%d of %d: %s, %v", i, n, short(p), ok)
			}
			if p, ok := prove.Absent(l, q.Key); ok || !same(p, api.Proof{}) {
				t.Errorf("%d of %d: %s, %v", i, n, short(p), ok)
			}
		}
	}
}

func TestAnEmptyValueIsThere(t *testing.T) {
	l := []api.Pair{{Key: "a"}, {Key: "c"}}
	if p, ok := prove.Exist(l, "c"); !ok || p.First != 1 || !slices.Equal(p.Pairs, l[1:]) {
		t.Errorf("%s, %v", short(p), ok)
	}
	if p, ok := prove.Absent(l, "c"); ok || !same(p, api.Proof{}) {
		t.Errorf("%s, %v", short(p), ok)
	}
}

// A value that is a key, or looks like one, is none.
func TestValuesAreNoKeys(t *testing.T) {
	l := []api.Pair{{Key: "a", Value: "b"}, {Key: "c", Value: "a"}}
	if p, ok := prove.Exist(l, "b"); ok || !same(p, api.Proof{}) {
		t.Errorf("%s, %v", short(p), ok)
	}
	if p, ok := prove.Absent(l, "b"); !ok || !slices.Equal(p.Pairs, l) {
		t.Errorf("%s, %v", short(p), ok)
	}
}

// R1, R2, R4, R5: every call ends; what is handed in stays as it is, and an answer is its caller's.

func TestRowsOfNoPairs(t *testing.T) {
	for i, l := range [][]api.Pair{nil, {}, make([]api.Pair, 0, 5), many(5)[:0], many(5)[5:]} {
		for _, from := range places(2) {
			for _, to := range places(2) {
				if p := prove.Some(l, from, to); !same(p, api.Proof{}) {
					t.Fatalf("%d, %d to %d: %s", i, from, to, short(p))
				}
			}
		}
		for _, key := range asked() {
			if p, ok := prove.Exist(l, key); ok || !same(p, api.Proof{}) {
				t.Errorf("%d, Exist %.40q: %s, %v", i, key, short(p), ok)
			}
			if p, ok := prove.Absent(l, key); !ok || !same(p, api.Proof{}) || prove.Size(p) != 0 {
				t.Errorf("%d, Absent %.40q: %s, %v", i, key, short(p), ok)
			}
			if p := prove.Range(l, key, "z"); !same(p, api.Proof{}) {
				t.Errorf("%d, Range %.40q: %s", i, key, short(p))
			}
		}
	}
}

// Rows that aren't right: the calls end, whatever they answer.
func TestCallsEndForAnyRow(t *testing.T) {
	falls := many(60)
	slices.Reverse(falls)
	long := []api.Pair{{Key: strings.Repeat("k", 1<<16)}, {}, {Key: "a", Value: strings.Repeat("v", 1<<16)}}
	mixed := slices.Concat(many(20), long, falls[:20], many(3))
	for _, l := range [][]api.Pair{slices.Repeat([]api.Pair{{Key: "a"}}, 50), falls, long, mixed, make([]api.Pair, 1), make([]api.Pair, 70), many(mostPairs + 1)} {
		for _, key := range append(asked(), "bb", "bd", "db", "zz", strings.Repeat("k", 1<<16)) {
			exist, _ := prove.Exist(l, key)
			absent, _ := prove.Absent(l, key)
			prove.Size(exist)
			prove.Size(absent)
			prove.Size(prove.Range(l, key, "bd"))
			prove.Size(prove.Range(l, "bd", key))
		}
		for _, from := range []int{math.MinInt, -1, 0, 1, 30, 31, math.MaxInt} {
			prove.Some(l, from, math.MinInt)
			prove.Some(l, from, 2)
			prove.Some(l, from, math.MaxInt)
		}
	}
	blank := make([]api.Pair, 600)
	prove.Range(blank, "", "a")
	prove.Some(blank, 0, len(blank))
}

// answers of one row: each call once at least, with pairs and without.
func answers(l []api.Pair) []api.Proof {
	key := "bd"
	exist, _ := prove.Exist(l, key)
	absent, _ := prove.Absent(l, key+"\x00")
	none, _ := prove.Absent(l, key)
	return []api.Proof{exist, absent, none, prove.Range(l, key, "cz"), prove.Range(l, "zz", "a"), prove.Range(l, "", "\xff"),
		prove.Some(l, 0, len(l)), prove.Some(l, 1, 3), prove.Some(l, 2, 2), prove.Some(l, len(l), len(l)+1)}
}

// clone of a proof, down to its paths.
func clone(p api.Proof) api.Proof {
	p.Pairs = slices.Clone(p.Pairs)
	paths := make([][]api.Hash, len(p.Paths))
	for i := range paths {
		paths[i] = slices.Clone(p.Paths[i])
	}
	p.Paths = paths
	return p
}

// spoil overwrites all that the proof has, and the room behind it.
func spoil(p api.Proof) {
	for _, path := range p.Paths[:cap(p.Paths)] {
		path = path[:cap(path)]
		for i := range path {
			path[i] = api.Hash{7}
		}
	}
	pairs, paths := p.Pairs[:cap(p.Pairs)], p.Paths[:cap(p.Paths)]
	for i := range pairs {
		pairs[i] = api.Pair{Key: "spoilt"}
	}
	for i := range paths {
		paths[i] = []api.Hash{{8}}
	}
}

func TestAnswersAreNewMemory(t *testing.T) {
	for n := range mostPairs + 1 {
		whole := append(many(n), api.Pair{Key: "behind"}, api.Pair{Key: "the row"})
		before, l := slices.Clone(whole), whole[:n]
		first, second := answers(l), answers(l)
		wants := make([]api.Proof, len(second))
		for i := range second {
			wants[i] = clone(second[i])
		}
		for i := range first {
			spoil(first[i])
			_ = append(second[i].Pairs, api.Pair{Key: "more"})
			_ = append(second[i].Paths, nil)
		}
		if !slices.Equal(whole, before) {
			t.Fatalf("%d: the row is shared", n)
		}
		for i := range l {
			l[i] = api.Pair{Key: "later"}
		}
		for i := range second {
			if !same(second[i], wants[i]) {
				t.Fatalf("%d, answer %d: shared", n, i)
			}
		}
	}
}

// No two lists of one answer share memory: what is spoilt or added at one place is told at no other.
func TestPathsOfOneProofShareNothing(t *testing.T) {
	for _, n := range []int{2, 3, 5, 8, 17, mostPairs} {
		for i := range n {
			p := prove.Some(many(n), 0, n)
			want := clone(p)
			path := p.Paths[i][:cap(p.Paths[i])]
			for k := range path {
				path[k] = api.Hash{9}
			}
			_ = append(p.Paths[i], api.Hash{9})
			for k := range n {
				if k != i && !slices.Equal(p.Paths[k], want.Paths[k]) {
					t.Errorf("%d and %d of %d", i, k, n)
				}
			}
		}
	}
}

func TestCallsLeaveWhatTheyAreGiven(t *testing.T) {
	for n := range mostPairs + 1 {
		whole := append(many(n), slices.Repeat([]api.Pair{{Key: "behind", Value: "the row"}}, 6)...)
		before, l := slices.Clone(whole), whole[:n]
		alone := answers(many(n))
		for i, p := range answers(l) {
			if !same(p, alone[i]) {
				t.Fatalf("%d, answer %d: the room is read", n, i)
			}
			sent := clone(p)
			prove.Size(p)
			if !reflect.DeepEqual(clone(p), sent) {
				t.Fatalf("%d, answer %d: Size has changed it", n, i)
			}
		}
		if !slices.Equal(whole, before) {
			t.Fatalf("%d: changed", n)
		}
	}
}

func TestTheSameAnswerEachTime(t *testing.T) {
	want := answers(many(mostPairs))
	for range 20 {
		for i, p := range answers(many(mostPairs)) {
			if !same(p, want[i]) {
				t.Fatalf("%d: %s, not %s", i, short(p), short(want[i]))
			}
		}
	}
}

// FuzzProofs asks a row that the text says for proofs of keys and places.
func FuzzProofs(f *testing.F) {
	f.Add("a=1,c=3,e=5", "b", "d", 1, 2)
	f.Add("\x80=2,\xff=,a=aaaaaaaaaaaaaaaaaaaaaaaa,aaaaaaaaaaaaaaaa=1", "", "\xff", -1, 99)
	f.Add("", "b", "a", 2, 1)
	f.Fuzz(func(t *testing.T, text, start, end string, from, to int) {
		var l []api.Pair
		for _, part := range strings.Split(text, ",") {
			key, value, _ := strings.Cut(part, "=")
			l, _ = kv.Set(l, api.Pair{Key: key, Value: value})
		}
		keys := []string{start, end}
		for _, p := range l[:min(len(l), 4)] {
			keys = append(keys, p.Key)
		}
		asks(t, l, keys)
		if got, want := prove.Some(l, from, to), someOf(l, pathsOf(l), from, to); !same(got, want) {
			t.Fatalf("%q, %d to %d: %s", l, from, to, short(got))
		}
	})
}
