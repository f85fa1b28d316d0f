package tree_test

import (
	"bytes"
	"crypto/sha256"
	"encoding/hex"
	"math"
	"os"
	"os/exec"
	"path/filepath"
	"slices"
	"strconv"
	"strings"
	"testing"

	"affiant/api"
	"affiant/tree"
)

// most leaves of a tree in which Depth and Up know places.
const most = 1 << 20

// tagged, leafOf, joined, levels, rootOf, pathOf, depthOf, upOf: what the promises say, by the library's hash, and by levels from the leaves on instead of by halves from the root on: two neighbours of a level make one of the next, and a last one without a neighbour is carried up.

func tagged(tag byte, parts ...[]byte) api.Hash {
	return sha256.Sum256(append([]byte{tag}, slices.Concat(parts...)...))
}

func leafOf(leaf []byte) api.Hash { return tagged(0, leaf) }

func joined(a, b api.Hash) api.Hash { return tagged(1, a[:], b[:]) }

func levels(leaves [][]byte) [][]api.Hash {
	var row []api.Hash
	for _, leaf := range leaves {
		row = append(row, leafOf(leaf))
	}
	all := [][]api.Hash{row}
	for len(row) > 1 {
		var next []api.Hash
		for pair := range slices.Chunk(row, 2) {
			if len(pair) == 2 {
				next = append(next, joined(pair[0], pair[1]))
			} else {
				next = append(next, pair[0])
			}
		}
		row = next
		all = append(all, row)
	}
	return all
}

func rootOf(leaves [][]byte) api.Hash {
	if len(leaves) == 0 {
		return tagged(2)
	}
	all := levels(leaves)
	return all[len(all)-1][0]
}

func pathOf(all [][]api.Hash, i int) []api.Hash {
	var path []api.Hash
	for _, row := range all {
		if i^1 < len(row) {
			path = append(path, row[i^1])
		}
		i /= 2
	}
	return path
}

func depthOf(i, n int) int {
	depth := 0
	for ; n > 1; i, n = i/2, (n+1)/2 {
		if i^1 < n {
			depth++
		}
	}
	return depth
}

func upOf(leaf []byte, i, n int, path []api.Hash) api.Hash {
	h := leafOf(leaf)
	for ; n > 1; i, n = i/2, (n+1)/2 {
		if i^1 >= n {
			continue
		}
		if i%2 == 0 {
			h = joined(h, path[0])
		} else {
			h = joined(path[0], h)
		}
		path = path[1:]
	}
	return h
}

// mixed is n leaves of unlike bytes and lengths, none among them too.
func mixed(n int) [][]byte {
	var leaves [][]byte
	x := uint32(n) + 1
	for i := range n {
		leaf := []byte{byte(i), byte(i >> 8)}
		x = x*1664525 + 1013904223
		for range x >> 24 % 90 {
			x = x*1664525 + 1013904223
			leaf = append(leaf, byte(x>>24))
		}
		leaves = append(leaves, leaf)
	}
	if n > 3 {
		leaves[n/3] = nil
	}
	return leaves
}

// hashes is n hashes that no leaves stand behind.
func hashes(n int) []api.Hash {
	hs := make([]api.Hash, n)
	for i := range hs {
		hs[i] = sha256.Sum256([]byte{byte(i), 77})
	}
	return hs
}

func fromHex(t *testing.T, texts ...string) []api.Hash {
	t.Helper()
	var hs []api.Hash
	for _, text := range texts {
		b, err := hex.DecodeString(text)
		if err != nil || len(b) != 32 {
			t.Fatal(text)
		}
		hs = append(hs, api.Hash(b))
	}
	return hs
}

// known are the leaves of RFC 6962's trees in the tests that are published for Certificate Transparency: it has these tags, too, but for a tree of no leaves.
func known() [][]byte {
	return [][]byte{
		{}, {0x00}, {0x10}, []byte("\x20\x21"), []byte("\x30\x31"), []byte("\x40\x41\x42\x43"),
		[]byte("\x50\x51\x52\x53\x54\x55\x56\x57"),
		[]byte("\x60\x61\x62\x63\x64\x65\x66\x67\x68\x69\x6a\x6b\x6c\x6d\x6e\x6f"),
	}
}

// P4.1

func TestRootOfKnownLeaves(t *testing.T) {
	for n, want := range fromHex(t,
		"dbc1b4c900ffe48d575b5da5c638040125f65db0fe3e24494b76ea986457d986",
		"6e340b9cffb37a989ca544e6bb780a2c78901d3fb33738768511a30617afa01d",
		"fac54203e7cc696cf0dfcb42c92a1d9dbaf70ad9e621f4bd8d98662f00e3c125",
		"aeb6bcfe274b70a14fb067a5e5578264db0fa9b51af5e0ba159158f329e06e77",
		"d37ee418976dd95753c1c73862b9398fa2a2cf9b4ff0fdfe8b30cd95209614b7",
		"4e3bbb1f7b478dcfe71fb631631519a3bca12c9aefca1612bfce4c13a86264d4",
		"76e67dadbcdf1e10e1b74ddc608abd2f98dfb16fbce75277b5232a127f2087ef",
		"ddb89be403809e325750d3d263cd78929c2942b7942a34b77e122c9594a74c8c",
		"5dc9da79a70659a9ad559cb701ded9a2ab9d823aad2f4960cfe370eff4604328",
	) {
		if got := tree.Root(known()[:n]...); got != want {
			t.Errorf("%d leaves: %x", n, got)
		}
	}
}

// The parts of five, six and seven leaves, written out: the left one has four.
func TestRootOfWrittenOutParts(t *testing.T) {
	l := mixed(7)
	var h []api.Hash
	for _, leaf := range l {
		h = append(h, leafOf(leaf))
	}
	four := joined(joined(h[0], h[1]), joined(h[2], h[3]))
	for _, c := range []struct {
		n    int
		want api.Hash
	}{
		{1, h[0]}, {2, joined(h[0], h[1])}, {3, joined(joined(h[0], h[1]), h[2])}, {4, four},
		{5, joined(four, h[4])}, {6, joined(four, joined(h[4], h[5]))},
		{7, joined(four, joined(joined(h[4], h[5]), h[6]))},
	} {
		if tree.Root(l[:c.n]...) != c.want {
			t.Error(c.n)
		}
	}
}

func TestRootOfEachNumber(t *testing.T) {
	for n := range 140 {
		if l := mixed(n); tree.Root(l...) != rootOf(l) {
			t.Error(n)
		}
	}
	for _, n := range []int{255, 256, 257, 511, 512, 513, 1000, 1023, 1024, 1025, 4095, 4096, 4097, 6000} {
		if l := mixed(n); tree.Root(l...) != rootOf(l) {
			t.Error(n)
		}
	}
}

func TestRootOfNone(t *testing.T) {
	want := tagged(2)
	if tree.Root() != want || tree.Root(nil...) != want || tree.Root([][]byte{}...) != want || tree.Root(mixed(5)[:0]...) != want {
		t.Error("none has not one root")
	}
	if tree.Root(nil, nil) == want || tree.Root([]byte(nil)) == want || tree.Root([]byte{}) == want || tree.Root([]byte{2}) == want {
		t.Error("a leaf of no bytes is none")
	}
}

func TestRootOfLeavesWithoutBytes(t *testing.T) {
	for n := range 20 {
		bare, empty := make([][]byte, n), make([][]byte, n)
		for i := range empty {
			empty[i] = []byte("abc")[:0]
		}
		if tree.Root(bare...) != tree.Root(empty...) || tree.Root(bare...) != rootOf(bare) {
			t.Error(n)
		}
		if tree.Root(bare...) == tree.Root(append(bare, nil)...) {
			t.Error(n, "and one more")
		}
	}
}

func TestRootOfLongLeaves(t *testing.T) {
	l := [][]byte{bytes.Repeat([]byte("x"), 1<<17), {1}, bytes.Repeat([]byte{0}, 1<<16+1)}
	if tree.Root(l...) != rootOf(l) || tree.Root(l[0]) != leafOf(l[0]) {
		t.Error("long")
	}
}

func TestRootHangsOnEachBitOfEachLeaf(t *testing.T) {
	for n := 1; n <= 9; n++ {
		l := mixed(n)
		seen := map[api.Hash]int{tree.Root(l...): -1}
		for i := range l {
			for bit := range 8 * len(l[i]) {
				l[i][bit/8] ^= 1 << (bit % 8)
				h := tree.Root(l...)
				if at, ok := seen[h]; ok {
					t.Fatalf("%d leaves: bit %d of %d has the root of leaf %d's", n, bit, i, at)
				}
				seen[h] = i
				l[i][bit/8] ^= 1 << (bit % 8)
			}
		}
	}
}

func TestRootHangsOnPlacesAndEnds(t *testing.T) {
	for n := 2; n <= 20; n++ {
		l := mixed(n)
		l[n/3] = []byte("not empty")
		seen := map[api.Hash]string{tree.Root(l...): "all"}
		see := func(what string, leaves [][]byte) {
			h := tree.Root(leaves...)
			if other, ok := seen[h]; ok {
				t.Errorf("%d leaves: %s, and %s", n, what, other)
			}
			seen[h] = what
		}
		for i := range n {
			see("without "+strconv.Itoa(i), slices.Delete(slices.Clone(l), i, i+1))
			for k := range i {
				x := slices.Clone(l)
				x[i], x[k] = x[k], x[i]
				see("turned "+strconv.Itoa(i)+", "+strconv.Itoa(k), x)
			}
			if i > 0 {
				x := slices.Clone(l)
				x[i] = slices.Concat(x[i-1], x[i])
				see("one of two "+strconv.Itoa(i), slices.Delete(x, i-1, i))
			}
		}
		see("one more", append(slices.Clone(l), nil))
		see("the last again", append(slices.Clone(l), l[n-1]))
	}
	if tree.Root([]byte("ab"), []byte("c")) == tree.Root([]byte("a"), []byte("bc")) {
		t.Error("where a leaf ends isn't told")
	}
}

// What is hashed of two roots, as a leaf, has another root: the tags tell them apart.
func TestRootOfLeavesThatReadAsRoots(t *testing.T) {
	a, b := leafOf([]byte("a")), leafOf([]byte("b"))
	for i, leaf := range [][]byte{
		slices.Concat(a[:], b[:]), slices.Concat([]byte{0}, a[:], b[:]), slices.Concat([]byte{1}, a[:], b[:]), []byte("ab"),
	} {
		if tree.Root(leaf) == tree.Root([]byte("a"), []byte("b")) {
			t.Error(i)
		}
	}
	if tree.Root(a[:], b[:]) == tree.Root([]byte("a"), []byte("b")) || tree.Root(a[:]) == tree.Root([]byte("a")) {
		t.Error("a root is taken for its leaf")
	}
}

// P4.2

func TestPathOfKnownLeaves(t *testing.T) {
	for _, c := range []struct {
		i, n int
		want []string
	}{
		{0, 1, nil},
		{0, 8, []string{
			"96a296d224f285c67bee93c30f8a309157f0daa35dc5b87e410b78630a09cfc7",
			"5f083f0a1a33ca076a95279832580db3e0ef4584bdff1f54c8a360f50de3031e",
			"6b47aaf29ee3c2af9af889bc1fb9254dabd31177f16232dd6aab035ca39bf6e4",
		}},
		{5, 8, []string{
			"bc1a0643b12e4d2d7c77918f44e0f4f79a838b6cf9ec5b5c283e1f4d88599e6b",
			"ca854ea128ed050b41b35ffc1b87b8eb2bde461e9e3b5596ece6b9d5975a0ae0",
			"d37ee418976dd95753c1c73862b9398fa2a2cf9b4ff0fdfe8b30cd95209614b7",
		}},
		{2, 3, []string{"fac54203e7cc696cf0dfcb42c92a1d9dbaf70ad9e621f4bd8d98662f00e3c125"}},
		{1, 5, []string{
			"6e340b9cffb37a989ca544e6bb780a2c78901d3fb33738768511a30617afa01d",
			"5f083f0a1a33ca076a95279832580db3e0ef4584bdff1f54c8a360f50de3031e",
			"bc1a0643b12e4d2d7c77918f44e0f4f79a838b6cf9ec5b5c283e1f4d88599e6b",
		}},
	} {
		if got := tree.Path(known()[:c.n], c.i); !slices.Equal(got, fromHex(t, c.want...)) {
			t.Errorf("leaf %d of %d: %x", c.i, c.n, got)
		}
	}
}

func TestPathOfEachLeaf(t *testing.T) {
	for n := 1; n <= 70; n++ {
		l := mixed(n)
		all := levels(l)
		for i := range n {
			if !slices.Equal(tree.Path(l, i), pathOf(all, i)) {
				t.Errorf("leaf %d of %d", i, n)
			}
		}
	}
	for _, n := range []int{1023, 1024, 1025, 3000} {
		l := mixed(n)
		all := levels(l)
		for _, i := range []int{0, 1, 2, 511, 512, 1000, n - 2, n - 1} {
			if !slices.Equal(tree.Path(l, i), pathOf(all, i)) {
				t.Errorf("leaf %d of %d", i, n)
			}
		}
	}
}

// Each hash of a path is the root of the leaves that it stands for, the lowest ones first.
func TestPathIsOfTheOtherPartsRoots(t *testing.T) {
	l := mixed(7)
	for i, want := range [][]api.Hash{
		{tree.Root(l[1]), tree.Root(l[2:4]...), tree.Root(l[4:]...)},
		{tree.Root(l[0]), tree.Root(l[2:4]...), tree.Root(l[4:]...)},
		{tree.Root(l[3]), tree.Root(l[:2]...), tree.Root(l[4:]...)},
		{tree.Root(l[2]), tree.Root(l[:2]...), tree.Root(l[4:]...)},
		{tree.Root(l[5]), tree.Root(l[6]), tree.Root(l[:4]...)},
		{tree.Root(l[4]), tree.Root(l[6]), tree.Root(l[:4]...)},
		{tree.Root(l[4:6]...), tree.Root(l[:4]...)},
	} {
		if !slices.Equal(tree.Path(l, i), want) {
			t.Error(i)
		}
	}
}

// A path tells of the other leaves: not of its own.
func TestPathHangsOnTheOtherLeaves(t *testing.T) {
	for n := 1; n <= 17; n++ {
		l := mixed(n)
		for i := range n {
			path := tree.Path(l, i)
			for k := range n {
				x := slices.Clone(l)
				x[k] = append(bytes.Clone(l[k]), 9)
				if slices.Equal(tree.Path(x, i), path) != (i == k) {
					t.Errorf("leaves %d, %d of %d", i, k, n)
				}
			}
		}
	}
}

// noPlaces of n leaves.
func noPlaces(n int) []int {
	return []int{-1, -2, -n, -n - 1, math.MinInt32, math.MinInt, math.MinInt + 1, n, n + 1, 2*n + 1, n + 1<<20, 1 << 32, 1<<32 + n/2, 1 << 62, math.MaxInt - 1, math.MaxInt}
}

func TestPathOfNoLeaf(t *testing.T) {
	for n := range 20 {
		l := mixed(n)
		for _, i := range noPlaces(n) {
			if path := tree.Path(l, i); len(path) != 0 {
				t.Errorf("leaf %d of %d: %x", i, n, path)
			}
		}
	}
	for _, i := range []int{0, 1, -1} {
		if len(tree.Path(nil, i)) != 0 || len(tree.Path([][]byte{}, i)) != 0 || len(tree.Path(mixed(3)[:0], i)) != 0 {
			t.Error(i)
		}
	}
	// Room behind the leaves is not theirs.
	if l := mixed(9)[:5]; len(tree.Path(l, 5)) != 0 || len(tree.Path(l, 8)) != 0 {
		t.Error("a leaf of the room behind")
	}
}

// P4.3

func TestUpOfEachPath(t *testing.T) {
	for n := 1; n <= 40; n++ {
		l := mixed(n)
		root := tree.Root(l...)
		for i := range n {
			path := tree.Path(l, i)
			if got, ok := tree.Up(l[i], i, n, path); !ok || got != root {
				t.Errorf("leaf %d of %d: %x, %v", i, n, got[:3], ok)
			}
			if tree.Depth(i, n) != len(path) {
				t.Errorf("leaf %d of %d: %d, not %d", i, n, tree.Depth(i, n), len(path))
			}
		}
	}
}

// Up tells a root of whatever hashes there are, if they are as many as they should be.
func TestUpOfAnyPath(t *testing.T) {
	for n := 1; n <= 40; n++ {
		for i := range n {
			for _, path := range [][]api.Hash{hashes(depthOf(i, n)), make([]api.Hash, depthOf(i, n))} {
				for _, leaf := range [][]byte{nil, {}, []byte("leaf"), {0}} {
					if got, ok := tree.Up(leaf, i, n, path); !ok || got != upOf(leaf, i, n, path) {
						t.Errorf("leaf %d of %d: %x, %v", i, n, got[:3], ok)
					}
				}
			}
		}
	}
}

func TestUpOfOtherLengths(t *testing.T) {
	for n := 1; n <= 20; n++ {
		for i := range n {
			for length := range 70 {
				got, ok := tree.Up([]byte("a"), i, n, hashes(length))
				if ok != (length == depthOf(i, n)) || !ok && got != (api.Hash{}) {
					t.Errorf("leaf %d of %d, path of %d: %x, %v", i, n, length, got[:3], ok)
				}
			}
		}
	}
	if _, ok := tree.Up(nil, 0, 1, nil); !ok {
		t.Error("a leaf alone, and no path")
	}
	if _, ok := tree.Up(nil, 0, 1, hashes(5)[:0]); !ok {
		t.Error("a leaf alone, and an empty path")
	}
	if got, ok := tree.Up(nil, 0, 2, hashes(5)[:0]); ok || got != (api.Hash{}) {
		t.Error("a hash of the room behind is read")
	}
}

// isRefused: no path of any length leads up from there.
func isRefused(i, n int) bool {
	for _, length := range []int{0, 1, 2, 19, 20, 21, 22, 63, 64} {
		if got, ok := tree.Up([]byte("a"), i, n, hashes(length)); ok || got != (api.Hash{}) {
			return false
		}
	}
	got, ok := tree.Up(nil, i, n, nil)
	return !ok && got == (api.Hash{}) && tree.Depth(i, n) == -1
}

func TestNoSuchLeaf(t *testing.T) {
	for _, n := range []int{1, 2, 3, 4, 5, 7, 8, 9, 30, 1 << 19, most - 1, most} {
		for _, i := range noPlaces(n) {
			if !isRefused(i, n) {
				t.Errorf("leaf %d of %d: %d", i, n, tree.Depth(i, n))
			}
		}
	}
	for _, n := range []int{0, -1, -2, -most, math.MinInt32, math.MinInt + 1, math.MinInt} {
		for _, i := range []int{0, 1, -1, -2, n - 1, n, n + 1, math.MinInt, math.MaxInt} {
			if !isRefused(i, n) {
				t.Errorf("leaf %d of %d: %d", i, n, tree.Depth(i, n))
			}
		}
	}
}

func TestTooManyLeaves(t *testing.T) {
	for _, n := range []int{most + 1, most + 2, 2*most - 1, 2 * most, 1 << 31, 1 << 32, 1<<32 + 1, 1 << 40, 1 << 62, 1<<62 + 1, math.MaxInt - 1, math.MaxInt} {
		for _, i := range []int{0, 1, most - 1, most, n / 2, n - 1, n, -1} {
			if !isRefused(i, n) {
				t.Errorf("leaf %d of %d: %d", i, n, tree.Depth(i, n))
			}
		}
	}
}

func TestDepthOfEachLeaf(t *testing.T) {
	for n := 1; n <= 300; n++ {
		for i := range n {
			if got := tree.Depth(i, n); got != depthOf(i, n) {
				t.Errorf("leaf %d of %d: %d", i, n, got)
			}
		}
	}
	for _, c := range []struct{ i, n, want int }{
		{0, 1, 0}, {0, 2, 1}, {1, 2, 1}, {0, 3, 2}, {2, 3, 1}, {4, 5, 1}, {3, 5, 3}, {6, 7, 2},
		{0, most, 20}, {most - 1, most, 20}, {most / 2, most, 20}, {0, most - 1, 20}, {most - 2, most - 1, 19},
		{0, most/2 + 1, 20}, {most / 2, most/2 + 1, 1}, {most/2 + 1, most/2 + 2, 2}, {0, most / 2, 19},
	} {
		if got := tree.Depth(c.i, c.n); got != c.want {
			t.Errorf("leaf %d of %d: %d, not %d", c.i, c.n, got, c.want)
		}
	}
}

func TestUpOfManyLeaves(t *testing.T) {
	for _, n := range []int{1<<16 - 1, 1 << 16, 1<<16 + 1, 700001, most/2 + 1, most - 1, most} {
		for _, i := range []int{0, 1, 2, 65534, n / 3, n / 2, n - 65, n - 2, n - 1} {
			depth := depthOf(i, n)
			if got, ok := tree.Up([]byte("a"), i, n, hashes(depth)); !ok || got != upOf([]byte("a"), i, n, hashes(depth)) {
				t.Errorf("leaf %d of %d: %v", i, n, ok)
			}
			for _, length := range []int{depth - 1, depth + 1} {
				if got, ok := tree.Up([]byte("a"), i, n, hashes(length)); ok || got != (api.Hash{}) {
					t.Errorf("leaf %d of %d, path of %d", i, n, length)
				}
			}
		}
	}
}

// A tree at the limit, and one leaf more: Path, and Root, which it asks, know no limit; Up and Depth do.
func TestTreesAtTheLimit(t *testing.T) {
	if testing.Short() {
		t.Skip("long")
	}
	l := make([][]byte, most+1)
	for i := range l {
		l[i] = []byte{byte(i), byte(i >> 8), byte(i >> 16)}
	}
	all := levels(l[:most])
	root := all[len(all)-1][0]
	path := tree.Path(l[:most], 777777)
	if got, ok := tree.Up(l[777777], 777777, most, path); !ok || got != root || !slices.Equal(path, pathOf(all, 777777)) {
		t.Errorf("at the limit: %x, %v", got[:3], ok)
	}
	if path = tree.Path(l, most); !slices.Equal(path, []api.Hash{root}) || !isRefused(most, most+1) {
		t.Error("path of one more")
	}
	if got, ok := tree.Up(l[most], most, most+1, path); ok || got != (api.Hash{}) {
		t.Error("up from one more")
	}
}

// Whatever is turned, it leads elsewhere, or nowhere.
func TestUpOfTurnedThings(t *testing.T) {
	for n := 1; n <= 20; n++ {
		l := mixed(n)
		root := tree.Root(l...)
		for i := range n {
			path := tree.Path(l, i)
			for k := range 40 {
				got, ok := tree.Up(l[i], k, n, path)
				if k != i && (got == root || ok != (k < n && depthOf(k, n) == len(path))) {
					t.Errorf("leaf %d of %d, at %d", i, n, k)
				}
			}
			if got, _ := tree.Up(append(bytes.Clone(l[i]), 0), i, n, path); got == root {
				t.Errorf("leaf %d of %d, and one byte", i, n)
			}
			for k := range path {
				x := slices.Clone(path)
				for bit := 0; bit < 256; bit += 37 {
					x[k][bit/8] ^= 1 << (bit % 8)
					if got, ok := tree.Up(l[i], i, n, x); !ok || got == root {
						t.Errorf("leaf %d of %d, hash %d", i, n, k)
					}
				}
				y := slices.Clone(path)
				y[k], y[0] = y[0], y[k]
				if got, ok := tree.Up(l[i], i, n, y); !ok || k > 0 && got == root {
					t.Errorf("leaf %d of %d, hashes 0 and %d turned", i, n, k)
				}
			}
		}
	}
}

// Two roots, joined, are no leaf of a tree that has them within.
func TestUpOfAnInnerRoot(t *testing.T) {
	l := mixed(4)
	a, b := leafOf(l[0]), leafOf(l[1])
	path := []api.Hash{tree.Root(l[2:]...)}
	for i, leaf := range [][]byte{slices.Concat(a[:], b[:]), slices.Concat([]byte{1}, a[:], b[:])} {
		if got, ok := tree.Up(leaf, 0, 2, path); !ok || got == tree.Root(l...) {
			t.Error(i)
		}
	}
}

// P4.4

func TestCost(t *testing.T) {
	for _, c := range []struct{ n, want int }{
		{0, 1}, {1, 1}, {2, 3}, {3, 5}, {4, 7}, {5, 9}, {30, 59}, {api.MaxHeight, 31},
		{most, 2*most - 1}, {most + 1, 2*most + 1}, {1 << 30, 1<<31 - 1}, {1 << 40, 1<<41 - 1}, {1<<62 - 1, 1<<63 - 3},
	} {
		if got := tree.Cost(c.n); got != c.want {
			t.Errorf("%d leaves: %d, not %d", c.n, got, c.want)
		}
	}
	for n := 1; n < 2000; n++ {
		if tree.Cost(n) != 2*n-1 {
			t.Error(n)
		}
	}
}

// counts tells for each number of leaves how often Root asked, and what it costs.
const counts = `package main

import (
	"affiant/sha"
	"affiant/tree"
)

func main() {
	for n := range 140 {
		sha.Asked = 0
		tree.Root(make([][]byte, n)...)
		println(n, sha.Asked, tree.Cost(n))
	}
}
`

// counter stands in front of sha's Tagged.
const counter = `package sha

import "affiant/api"

var Asked int

func Tagged(tag byte, parts ...[]byte) api.Hash {
	Asked++
	return tagged(tag, parts...)
}
`

// copyWith lays the files of ../ that match below dir, in their places there, with each from turned into to.
func copyWith(t *testing.T, dir, match, from, to string) {
	t.Helper()
	files, _ := filepath.Glob(filepath.Join("..", match))
	for _, file := range files {
		if strings.HasSuffix(file, "_test.go") {
			continue
		}
		text, err := os.ReadFile(file)
		if err != nil {
			t.Fatal(err)
		}
		write(t, filepath.Join(dir, strings.TrimPrefix(file, "..")), strings.ReplaceAll(string(text), from, to))
	}
}

func write(t *testing.T, path, text string) {
	t.Helper()
	if err := os.MkdirAll(filepath.Dir(path), 0o755); err != nil {
		t.Fatal(err)
	}
	if err := os.WriteFile(path, []byte(text), 0o644); err != nil {
		t.Fatal(err)
	}
}

// From outside one can't see how often Root asks: a copy of the packages is run, in which Tagged counts.
func TestCostIsHowOftenRootAsks(t *testing.T) {
	dir := t.TempDir()
	for _, match := range []string{"go.mod", "api/*.go", "sha/*.go", "tree/*.go"} {
		copyWith(t, dir, match, "func Tagged(", "func tagged(")
	}
	write(t, filepath.Join(dir, "sha", "counter.go"), counter)
	write(t, filepath.Join(dir, "main.go"), counts)
	run := exec.Command("go", "run", ".")
	run.Dir = dir
	out, err := run.CombinedOutput()
	if err != nil {
		t.Fatalf("%v: %s", err, out)
	}
	told := strings.Fields(string(out))
	if len(told) != 3*140 {
		t.Fatalf("%s", out)
	}
	for n := range 140 {
		if asked, cost := told[3*n+1], told[3*n+2]; asked != cost || asked != strconv.Itoa(max(1, 2*n-1)) {
			t.Errorf("%d leaves: asked %s times, cost %s", n, asked, cost)
		}
	}
}

// R1, R2: every call ends; what is handed in stays as it is, and an answer is its caller's.

func TestCallsEndForAnyNumbers(t *testing.T) {
	ns := []int{math.MinInt, math.MinInt + 1, -1 << 32, -2, -1, 0, 1, 2, most, most + 1, 1 << 62, 1<<62 + 1, math.MaxInt - 1, math.MaxInt}
	for _, n := range ns {
		tree.Cost(n)
		for _, i := range ns {
			tree.Depth(i, n)
			tree.Up(nil, i, n, nil)
			tree.Path(nil, i)
			tree.Path(make([][]byte, 3), i)
		}
	}
}

func TestCallsLeaveWhatTheyAreGiven(t *testing.T) {
	for n := range 20 {
		room := []byte("the room behind a leaf")
		l := make([][]byte, n, n+8)
		for i := range l {
			l[i] = slices.Concat(mixed(n)[i], room)[:len(mixed(n)[i])]
		}
		whole := l[:cap(l)]
		for i := n; i < cap(l); i++ {
			whole[i] = []byte("behind")
		}
		before := slices.Clone(whole)
		for i := range n {
			path := tree.Path(l, i)
			long := append(slices.Clone(path), hashes(8)...)
			short := long[:len(path)]
			if got, ok := tree.Up(l[i], i, n, short); !ok || got != rootOf(l) {
				t.Errorf("leaf %d of %d, room behind", i, n)
			}
			if !slices.Equal(long[len(path):], hashes(8)) || !slices.Equal(short, path) {
				t.Errorf("leaf %d of %d: its path is changed", i, n)
			}
		}
		tree.Root(l...)
		for i := range whole {
			if len(whole[i]) != len(before[i]) || i >= n && string(whole[i]) != "behind" {
				t.Errorf("list of %d, place %d", n, i)
			}
			if i < n && !bytes.Equal(l[i][:len(l[i])+len(room)], slices.Concat(mixed(n)[i], room)) {
				t.Errorf("leaf %d of %d is changed", i, n)
			}
		}
	}
}

func TestPathsAreNewMemory(t *testing.T) {
	l := mixed(11)
	all := levels(l)
	for i := range l {
		first, second := tree.Path(l, i), tree.Path(l, i)
		first = first[:cap(first)]
		for k := range first {
			first[k] = api.Hash{9}
		}
		if !slices.Equal(second, pathOf(all, i)) || !slices.Equal(tree.Path(l, i), pathOf(all, i)) {
			t.Errorf("leaf %d: paths share", i)
		}
		l[i] = append(l[i], 1)
		if !slices.Equal(second, pathOf(all, i)) {
			t.Errorf("leaf %d: its path is kept", i)
		}
		all = levels(l)
	}
}

// A leaf may stand in many places of one list.
func TestLeavesThatShare(t *testing.T) {
	l := slices.Repeat([][]byte{[]byte("same")}, 13)
	for i := range l {
		if got, ok := tree.Up(l[0], i, 13, tree.Path(l, i)); !ok || got != rootOf(l) || tree.Root(l...) != got {
			t.Error(i)
		}
	}
}

func FuzzUp(f *testing.F) {
	f.Add([]byte("a,b,c"), 1, 5)
	f.Add([]byte(",,,,"), 4, 0)
	f.Add([]byte{}, 0, -1)
	f.Fuzz(func(t *testing.T, text []byte, i, n int) {
		l := bytes.Split(text, []byte(","))
		root := tree.Root(l...)
		if root != rootOf(l) {
			t.Error("root")
		}
		path := tree.Path(l, i)
		got, ok := tree.Up([]byte("a"), i, n, path)
		if ok != (0 <= i && i < n && n <= most && tree.Depth(i, n) == len(path)) || !ok && got != (api.Hash{}) {
			t.Errorf("leaf %d of %d: %v", i, n, ok)
		}
		if ok && got != upOf([]byte("a"), i, n, path) {
			t.Errorf("leaf %d of %d: another root", i, n)
		}
		if i < 0 || i >= len(l) {
			if len(path) != 0 {
				t.Errorf("path of leaf %d of %d", i, len(l))
			}
			return
		}
		if got, ok := tree.Up(l[i], i, len(l), path); !ok || got != root || !slices.Equal(path, pathOf(levels(l), i)) {
			t.Errorf("leaf %d of %d", i, len(l))
		}
	})
}

func BenchmarkRoot(b *testing.B) {
	l := mixed(30)
	for b.Loop() {
		tree.Root(l...)
	}
}

func BenchmarkPath(b *testing.B) {
	l := mixed(30)
	for b.Loop() {
		tree.Path(l, 17)
	}
}
