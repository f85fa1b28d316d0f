package check_test

import (
	"crypto/sha256"
	"fmt"
	"slices"
	"strings"
	"testing"

	"affiant/api"
	"affiant/check"
)

// Limits of the document, in its own numbers.
const (
	mostPairs = 30
	mostKey   = 16
	mostValue = 24
)

// What the promises say, by the library's hash, and by levels of the tree from the leaves on.

func tagged(tag byte, parts ...[]byte) []byte {
	h := sha256.Sum256(append([]byte{tag}, slices.Concat(parts...)...))
	return h[:]
}

func leafOf(p api.Pair) []byte {
	return slices.Concat([]byte{byte(len(p.Key))}, []byte(p.Key), []byte{byte(len(p.Value))}, []byte(p.Value))
}

// treeOf is the top of a row's tree, and the path of each pair.
func treeOf(l []api.Pair) (top []byte, paths [][]api.Hash) {
	if len(l) == 0 {
		return tagged(2), nil
	}
	paths = make([][]api.Hash, len(l))
	var level [][]byte
	for _, p := range l {
		level = append(level, tagged(0, leafOf(p)))
	}
	for step := 0; len(level) > 1; step++ {
		for i := range paths {
			if other := i>>step ^ 1; other < len(level) {
				paths[i] = append(paths[i], api.Hash(level[other]))
			}
		}
		var next [][]byte
		for two := range slices.Chunk(level, 2) {
			if len(two) == 2 {
				next = append(next, tagged(1, two...))
			} else {
				next = append(next, two[0])
			}
		}
		level = next
	}
	return level[0], paths
}

func rootOf(l []api.Pair) api.Hash {
	top, _ := treeOf(l)
	return api.Hash(tagged('S', []byte{byte(len(l))}, top))
}

// honest is the proof of the pairs from place from on, ahead of place to, both of l, whether l is right or not.
func honest(l []api.Pair, from, to int) api.Proof {
	_, paths := treeOf(l)
	p := api.Proof{Count: len(l)}
	if from < to {
		p.First = from
		p.Pairs, p.Paths = slices.Clone(l[from:to]), paths[from:to]
	}
	return p
}

// isHonest: no proof but the honest one of those places is sound, while no two texts clash.
func isHonest(l []api.Pair, p api.Proof) bool {
	shown := len(p.Pairs)
	if p.First < 0 || p.First > len(l) || p.First+shown > len(l) || shown == 0 && len(l) > 0 {
		return false
	}
	return same(p, honest(l, p.First, p.First+shown))
}

func isRight(l []api.Pair) bool {
	for i, p := range l {
		if p.Key == "" || len(p.Key) > mostKey || len(p.Value) > mostValue || i > 0 && p.Key <= l[i-1].Key {
			return false
		}
	}
	return len(l) <= mostPairs
}

// climb is the top to which h leads from place i of n.
func climb(h []byte, i, n int, path []api.Hash) ([]byte, bool) {
	for ; n > 1; i, n = i/2, (n+1)/2 {
		other := i ^ 1
		if other >= n {
			continue
		}
		if len(path) == 0 {
			return nil, false
		}
		if i < other {
			h = tagged(1, h, path[0][:])
		} else {
			h = tagged(1, path[0][:], h)
		}
		path = path[1:]
	}
	return h, len(path) == 0
}

// soundOf: P9.1.
func soundOf(root api.Hash, p api.Proof) bool {
	shown := len(p.Pairs)
	if p.Count < 0 || p.Count > mostPairs || len(p.Paths) != shown || !isRight(p.Pairs) || p.First < 0 || p.First > p.Count-shown {
		return false
	}
	if p.Count == 0 {
		return root == rootOf(nil)
	}
	for i, x := range p.Pairs {
		top, ok := climb(tagged(0, leafOf(x)), p.First+i, p.Count, p.Paths[i])
		if !ok || root != api.Hash(tagged('S', []byte{byte(p.Count)}, top)) {
			return false
		}
	}
	return shown > 0
}

// inRange: the pairs of l of the keys from start on, below end.
func inRange(l []api.Pair, start, end string) []api.Pair {
	var in []api.Pair
	for _, p := range l {
		if start <= p.Key && p.Key < end {
			in = append(in, p)
		}
	}
	return in
}

// bounds: does a sound proof of those pairs, which are all from place first to place count - 1 if they are all, bound that range?
func bounds(p api.Proof, start, end string) bool {
	ahead, beyond := p.First == 0, p.First+len(p.Pairs) == p.Count
	for i, x := range p.Pairs {
		ahead = ahead || i == 0 && x.Key < start
		beyond = beyond || i == len(p.Pairs)-1 && x.Key >= start && x.Key >= end
	}
	return ahead && beyond
}

func hasKey(l []api.Pair, key string) bool {
	return slices.ContainsFunc(l, func(p api.Pair) bool { return p.Key == key })
}

// costOf: P9.4.
func costOf(p api.Proof) int {
	if p.Count == 0 {
		return 2
	}
	return len(slices.Concat(p.Paths...)) + 2*len(p.Pairs)
}

// agree holds all that may be asked of p, with those keys, against what the promises say, if it is sound or isn't.
func agree(t *testing.T, root api.Hash, p api.Proof, sound bool, keys []string) {
	t.Helper()
	if got := check.Sound(root, p); got != sound {
		t.Fatalf("Sound %v: %s", got, short(p))
	}
	if got := check.Cost(p); got != costOf(p) {
		t.Fatalf("Cost %d, not %d: %s", got, costOf(p), short(p))
	}
	xs := []api.Pair{{}, {Key: "a", Value: "1"}}
	for _, x := range p.Pairs[:min(len(p.Pairs), 2)] {
		xs = append(xs, x, api.Pair{Key: x.Key, Value: x.Value + "x"}, api.Pair{Key: x.Key + "\x00", Value: x.Value}, api.Pair{Key: x.Value, Value: x.Key})
	}
	for _, x := range xs {
		want := sound && len(p.Pairs) == 1 && p.Pairs[0] == x
		if got := check.Exist(root, x, p); got != want {
			t.Fatalf("Exist of %q %v: %s", x, got, short(p))
		}
	}
	for _, start := range keys {
		want := sound && bounds(p, start, start) && !hasKey(p.Pairs, start)
		if got := check.Absent(root, start, p); got != want {
			t.Fatalf("Absent of %.40q %v: %s", start, got, short(p))
		}
		for _, end := range keys {
			ok := sound && bounds(p, start, end)
			var want []api.Pair
			if ok {
				want = inRange(p.Pairs, start, end)
			}
			if l, got := check.Range(root, start, end, p); got != ok || !slices.Equal(l, want) {
				t.Fatalf("Range of %.40q to %.40q: %.200q, %v, not %.200q, %v: %s", start, end, l, got, want, ok, short(p))
			}
		}
	}
}

func same(a, b api.Proof) bool {
	return a.Count == b.Count && a.First == b.First && slices.Equal(a.Pairs, b.Pairs) && slices.EqualFunc(a.Paths, b.Paths, slices.Equal[[]api.Hash])
}

func short(p api.Proof) string {
	return fmt.Sprintf("%d of %d from %d on, %.200q, %d paths %.60x", len(p.Pairs), p.Count, p.First, p.Pairs, len(p.Paths), p.Paths)
}

// clone of a proof, down to its paths.
func clone(p api.Proof) api.Proof {
	p.Pairs = slices.Clone(p.Pairs)
	paths := make([][]api.Hash, len(p.Paths))
	for i := range paths {
		paths[i] = slices.Clone(p.Paths[i])
	}
	p.Paths = paths
	return p
}

// many is a row of n pairs, right if n is mostPairs at most: between its keys there is room.
func many(n int) []api.Pair {
	l := make([]api.Pair, n)
	for i := range l {
		l[i] = api.Pair{Key: string([]byte{'b' + byte(i/8), 'b' + 2*byte(i%8)}), Value: strings.Repeat("v", i%(mostValue+1))}
	}
	return l
}

// wide is a row of as many pairs as may be, each as long as may be.
func wide() []api.Pair {
	l := make([]api.Pair, mostPairs)
	for i := range l {
		l[i] = api.Pair{Key: fmt.Sprintf("%016d", i), Value: fmt.Sprintf("%024d", i)}
	}
	return l
}

// edges: keys, rising: each byte's ends, such as others begin with, and one of mostKey bytes.
var edges = []string{"\x00", "a", "a\x00", "aaaaaaaaaaaaaaaa", "\x80", "\xff"}

// asked: the edges, and keys between, below, above them; some are none that a pair may have.
func asked() []string {
	return append(slices.Clone(edges), "", "\x00\x00", "A", "a\x00b", "aa", "aaaaaaaaaaaaaaab", "\x7f", "\x80\x00", "\xff\x00",
		strings.Repeat("a", mostKey+1), strings.Repeat("\xff", 70000))
}

// eachRow calls f with each row that there is of the edges: 64 of them.
func eachRow(f func(l []api.Pair)) {
	for bits := range 1 << len(edges) {
		var l []api.Pair
		for i, key := range edges {
			if bits>>i&1 == 1 {
				l = append(l, api.Pair{Key: key, Value: strings.Repeat("v", i)})
			}
		}
		f(l)
	}
}

// eachPart calls f with the honest proof of each part of l, the empty one once.
func eachPart(l []api.Pair, f func(p api.Proof)) {
	f(honest(l, 0, 0))
	for from := range l {
		for to := from + 1; to <= len(l); to++ {
			f(honest(l, from, to))
		}
	}
}
