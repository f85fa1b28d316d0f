package check_test

import (
	"encoding/hex"
	"math"
	"slices"
	"strings"
	"testing"

	"affiant/api"
	"affiant/check"
	"affiant/kv"
	"affiant/prove"
	"affiant/store"
	"affiant/tree"
)

// P9.1

func hashes(t *testing.T, text string) []api.Hash {
	t.Helper()
	var hs []api.Hash
	for word := range strings.FieldsSeq(text) {
		b, err := hex.DecodeString(word)
		if err != nil || len(b) != len(api.Hash{}) {
			t.Fatal(word, err)
		}
		hs = append(hs, api.Hash(b))
	}
	return hs
}

// The roots and the paths have been worked out by another program.
func TestKnownProofs(t *testing.T) {
	a, c, e := api.Pair{Key: "a", Value: "1"}, api.Pair{Key: "c", Value: "3"}, api.Pair{Key: "e", Value: "5"}
	const (
		none  = "6a6eebcc368947e4a8853bd065421c5637f6876f9aa0b881dcf613106726ec61"
		one   = "08ed21d5b32ee813a3971e9da8089ea7e008f2011f4202567e2697654e299817"
		two   = "e06c3439939b0c3c19dab73c88842fde25586f2067c393fd4e839c1c1a61fff2"
		three = "438097521f1a165d5bc246d79b424bbb12ddce1e5ef0186c2d1379b0530fc555"
		full  = "bb9de078ce730c107a65a955e9ff6de9d54f1f9b105f1cb69d1ea57008659271"
		pathA = "963e2619c0e799bebc17f6856ab1bc7781b2c72cf5fc0dc3462ac465edd0c327 23febf9894b355196e9374264437b8d542ac973c71e2ec960120e4bb716eb04f"
		pathC = "284e4b8ddd0e5439923bda6313470dcba69b9dd22bbd76998f82aa8ebd869dd4 23febf9894b355196e9374264437b8d542ac973c71e2ec960120e4bb716eb04f"
		pathE = "e6f170ab22edd8d36062e9617321a76765a7b7a61740bdf40db4c84d6760ec04"
		last  = "ea91bb671f3db22e68d817bf030d76318433ffb27969c14b81da5390a5bbd68c cad015751455ed664f40c2f97912d799f0db9e98fa2b2976dc1bda119483b224 e45fae88dd1cbe1df218f734eed91790c92659b3b3e48aae8394ebd4d87af273 f395356980a0887c3d8c81d03b12b05ce5994d3509adb713808540020ba8640d"
	)
	for i, k := range []struct {
		root         string
		count, first int
		pairs        []api.Pair
		paths        []string
		want         bool
	}{
		{none, 0, 0, nil, nil, true},
		{one, 0, 0, nil, nil, false},
		{one, 1, 0, []api.Pair{a}, []string{""}, true},
		{none, 1, 0, []api.Pair{a}, []string{""}, false},
		{one, 1, 0, []api.Pair{c}, []string{""}, false},
		{two, 2, 0, []api.Pair{{Key: "\x00", Value: "\xff"}}, []string{"fa41366ac532d37b6e4687762f5b62e98a2df075c55528a4b5f8901fcb62ff89"}, true},
		{two, 2, 1, []api.Pair{{Key: "\x80"}}, []string{"3f32c70699c867cfee90130ad81d0fb4b9b98517d917c55ba60ed5c0710264c9"}, true},
		{two, 2, 1, []api.Pair{{Key: "\x00", Value: "\xff"}}, []string{"fa41366ac532d37b6e4687762f5b62e98a2df075c55528a4b5f8901fcb62ff89"}, false},
		{three, 3, 0, []api.Pair{a, c, e}, []string{pathA, pathC, pathE}, true},
		{three, 3, 0, []api.Pair{a, c}, []string{pathA, pathC}, true},
		{three, 3, 1, []api.Pair{c, e}, []string{pathC, pathE}, true},
		{three, 3, 2, []api.Pair{e}, []string{pathE}, true},
		{three, 3, 1, []api.Pair{c, e}, []string{pathC, pathC}, false},
		{three, 3, 0, []api.Pair{a, e}, []string{pathA, pathE}, false},
		{three, 2, 1, []api.Pair{e}, []string{pathE}, false},
		{full, 30, 29, wide()[29:], []string{last}, true},
		{full, 30, 28, wide()[29:], []string{last}, false},
		{full, 30, 29, wide()[28:29], []string{last}, false},
	} {
		p := api.Proof{Count: k.count, First: k.first, Pairs: k.pairs}
		for _, path := range k.paths {
			p.Paths = append(p.Paths, hashes(t, path))
		}
		if got := check.Sound(hashes(t, k.root)[0], p); got != k.want {
			t.Errorf("%d: %v", i, got)
		}
	}
}

func TestEachPartOfEachLength(t *testing.T) {
	if api.MaxPairs != mostPairs || api.MaxKey != mostKey || api.MaxValue != mostValue {
		t.Fatal("limits")
	}
	for n := range mostPairs + 1 {
		for _, l := range [][]api.Pair{many(n), wide()[:n]} {
			root := rootOf(l)
			eachPart(l, func(p api.Proof) {
				if want := len(p.Pairs) > 0 || n == 0; check.Sound(root, p) != want {
					t.Errorf("not %v: %s", want, short(p))
				}
			})
		}
	}
}

// numbers: all places and counts, and such as are none, some of them right but for bits that a narrow number hasn't.
func numbers() []int {
	ns := []int{math.MinInt, math.MinInt + 1, -1<<32 + 1, -256, -31, -30, -2, -1, 255, 256, 257, 259, 1<<16 + 1, 1<<20 + 1, 1<<32 + 1, 1<<32 + 7, math.MaxInt - 7, math.MaxInt - 1, math.MaxInt}
	for n := range mostPairs + 4 {
		ns = append(ns, n)
	}
	return ns
}

// A proof says one count, and one place: with any other it isn't sound.
func TestCountsAndPlaces(t *testing.T) {
	for _, n := range []int{0, 1, 2, 3, 4, 7, 8, 16, 29, mostPairs} {
		l := many(n)
		root := rootOf(l)
		for _, part := range [][2]int{{0, 0}, {0, min(n, 1)}, {0, n}, {n / 2, n}, {n / 2, min(n, n/2+2)}, {max(n-1, 0), n}} {
			p := honest(l, part[0], part[1])
			for _, count := range numbers() {
				for _, first := range numbers() {
					q := p
					q.Count, q.First = count, first
					if got := check.Sound(root, q); got != isHonest(l, q) || got != soundOf(root, q) {
						t.Errorf("%v: %s", got, short(q))
					}
				}
			}
		}
	}
}

// Of no pairs one proof is sound, and against one root.
func TestProofsOfNoPairs(t *testing.T) {
	none, one := store.Root(nil), []api.Pair{{Key: "a", Value: "1"}}
	for i, k := range []struct {
		root api.Hash
		p    api.Proof
		want bool
	}{
		{none, api.Proof{}, true},
		{none, api.Proof{Pairs: []api.Pair{}, Paths: [][]api.Hash{}}, true},
		{none, api.Proof{First: 1}, false},
		{none, api.Proof{First: -1}, false},
		{none, api.Proof{Count: 1}, false},
		{none, api.Proof{Count: -1}, false},
		{none, api.Proof{Count: -1, First: -1}, false},
		{none, api.Proof{Paths: [][]api.Hash{{}}}, false},
		{none, api.Proof{Pairs: one}, false},
		{none, api.Proof{Pairs: one, Paths: [][]api.Hash{{}}}, false},
		{none, api.Proof{First: -1, Pairs: one, Paths: [][]api.Hash{{}}}, false},
		{api.Hash{}, api.Proof{}, false},
		{tree.Root(), api.Proof{}, false},
		{store.Root(one), api.Proof{}, false},
		{store.Root(one), api.Proof{Count: 1}, false},
		{store.Root(many(30)), api.Proof{Count: 30}, false},
		{store.Root(many(30)), api.Proof{Count: 30, First: 30}, false},
		{api.Hash(tagged('S', tagged(2))), api.Proof{}, false},
		{api.Hash(tagged('S', []byte{1}, tagged(2))), api.Proof{Count: 1}, false},
	} {
		if got := check.Sound(k.root, k.p); got != k.want || got != soundOf(k.root, k.p) {
			t.Errorf("%d: %v", i, got)
		}
	}
}

// wrongRows: each has its root, and its paths lead there, but it isn't right.
func wrongRows() [][]api.Pair {
	falls := many(5)
	falls[1], falls[2] = falls[2], falls[1]
	long := many(3)
	long[2].Key = strings.Repeat("z", mostKey+1)
	wordy := many(4)
	wordy[1].Value = strings.Repeat("v", mostValue+1)
	twice := many(4)
	twice[3].Key = twice[2].Key
	return [][]api.Pair{falls, long, wordy, twice, {{Value: "1"}}, {{}}, {{}, {Key: "a"}}, {{Key: "a"}, {Key: "a"}}, {{Key: "\x80"}, {Key: "\x7f"}}, {{Key: "aa"}, {Key: "a"}}}
}

// Pairs that aren't right are refused however well they stand under a root; of pairs that aren't shown nothing is told.
func TestRowsThatAreNotRight(t *testing.T) {
	for i, l := range wrongRows() {
		root := rootOf(l)
		if check.Sound(root, honest(l, 0, len(l))) {
			t.Errorf("%d", i)
		}
		eachPart(l, func(p api.Proof) {
			if got, want := check.Sound(root, p), len(p.Pairs) > 0 && isRight(p.Pairs); got != want {
				t.Errorf("%d, %v: %s", i, got, short(p))
			}
		})
	}
}

func TestRowsOfTooMany(t *testing.T) {
	for n := mostPairs + 1; n < 2*mostPairs+6; n++ {
		l := many(n)
		root := rootOf(l)
		for _, p := range []api.Proof{honest(l, 0, n), honest(l, 0, 1), honest(l, 3, 30), honest(l, n-1, n), honest(l, 1, 31)} {
			agree(t, root, p, false, []string{"", "b", "bc", "\xff"})
		}
	}
	l := many(mostPairs)
	agree(t, rootOf(l), honest(l, 0, mostPairs), true, []string{"", "b", "bc", "\xff"})
}

// turns change one thing or two of a proof, where it has such.
func turns() []func(p *api.Proof) {
	return []func(p *api.Proof){
		func(p *api.Proof) {},
		func(p *api.Proof) { p.Count++ },
		func(p *api.Proof) { p.Count-- },
		func(p *api.Proof) { p.First++ },
		func(p *api.Proof) { p.First-- },
		func(p *api.Proof) { p.First++; p.Count++ },
		func(p *api.Proof) { p.First--; p.Count-- },
		func(p *api.Proof) { p.Count = len(p.Pairs); p.First = 0 },
		func(p *api.Proof) { p.Pairs = nil },
		func(p *api.Proof) { p.Paths = nil },
		func(p *api.Proof) { p.Pairs, p.Paths = nil, nil },
		func(p *api.Proof) { p.Pairs = append(p.Pairs, api.Pair{Key: "\xff\xff"}) },
		func(p *api.Proof) { p.Pairs = slices.Insert(p.Pairs, 0, api.Pair{Key: "\x00"}) },
		func(p *api.Proof) { p.Paths = append(p.Paths, nil) },
		func(p *api.Proof) { p.Paths = slices.Insert(p.Paths, 0, nil) },
		func(p *api.Proof) {
			p.Pairs, p.Paths = append(p.Pairs, api.Pair{Key: "\xff\xff"}), append(p.Paths, nil)
		},
		func(p *api.Proof) { slices.Reverse(p.Pairs) },
		func(p *api.Proof) { slices.Reverse(p.Paths) },
		func(p *api.Proof) { slices.Reverse(p.Pairs); slices.Reverse(p.Paths) },
	}
}

// placedTurns change the pair or the path at place i of the proof.
func placedTurns(i int) []func(p *api.Proof) {
	return []func(p *api.Proof){
		func(p *api.Proof) { p.Pairs = slices.Delete(p.Pairs, i, i+1) },
		func(p *api.Proof) { p.Paths = slices.Delete(p.Paths, i, i+1) },
		func(p *api.Proof) { p.Pairs, p.Paths = slices.Delete(p.Pairs, i, i+1), slices.Delete(p.Paths, i, i+1) },
		func(p *api.Proof) { p.Pairs, p.Paths = p.Pairs[i:], p.Paths[i:] },
		func(p *api.Proof) { p.First, p.Pairs, p.Paths = p.First+i, p.Pairs[i:], p.Paths[i:] },
		func(p *api.Proof) { p.Pairs, p.Paths = p.Pairs[:i], p.Paths[:i] },
		func(p *api.Proof) {
			p.Pairs, p.Paths = slices.Insert(p.Pairs, i, p.Pairs[i]), slices.Insert(p.Paths, i, p.Paths[i])
		},
		func(p *api.Proof) { p.Pairs[i].Value += "x" },
		func(p *api.Proof) { p.Pairs[i].Value = "" },
		func(p *api.Proof) { p.Pairs[i].Value = strings.Repeat("x", mostValue+1) },
		func(p *api.Proof) { p.Pairs[i].Key += "\x00" },
		func(p *api.Proof) { p.Pairs[i].Key = "" },
		func(p *api.Proof) { p.Pairs[i].Key += strings.Repeat("x", mostKey) },
		func(p *api.Proof) { x := &p.Pairs[i]; x.Key, x.Value = x.Value, x.Key },
		// The same letters, with the bound between key and value at another place.
		func(p *api.Proof) { x := &p.Pairs[i]; x.Key, x.Value = x.Key[:1], x.Key[1:]+x.Value },
		func(p *api.Proof) { p.Paths[i] = append(p.Paths[i], api.Hash{}) },
		func(p *api.Proof) { p.Paths[i] = slices.Insert(p.Paths[i], 0, api.Hash{}) },
		func(p *api.Proof) { p.Paths[i] = p.Paths[i][:max(len(p.Paths[i])-1, 0)] },
		func(p *api.Proof) { p.Paths[i] = p.Paths[i][min(len(p.Paths[i]), 1):] },
		func(p *api.Proof) { p.Paths[i] = nil },
		func(p *api.Proof) { slices.Reverse(p.Paths[i]) },
		func(p *api.Proof) { p.Paths[i] = slices.Repeat([]api.Hash{{}}, len(p.Paths[i])) },
		func(p *api.Proof) { p.Paths[i] = p.Paths[0] },
		func(p *api.Proof) { p.Paths[i] = p.Paths[len(p.Paths)-1] },
	}
}

// Whatever is turned: a proof is sound just if it is that which its places have.
func TestTurnedProofs(t *testing.T) {
	for _, n := range []int{0, 1, 2, 3, 5, 6, 8, mostPairs} {
		l := many(n)
		root, keys := rootOf(l), []string{"", "bc", "\xff"}
		eachPart(l, func(p api.Proof) {
			if n > 8 && len(p.Pairs) != 3 {
				return
			}
			fs := turns()
			for i := range p.Pairs {
				fs = append(fs, placedTurns(i)...)
			}
			for _, f := range fs {
				q := clone(p)
				f(&q)
				agree(t, root, q, isHonest(l, q), keys)
				if soundOf(root, q) != isHonest(l, q) {
					t.Fatal(short(q))
				}
			}
		})
	}
}

func TestEachBitOfTheRoot(t *testing.T) {
	for _, n := range []int{0, 1, 3, mostPairs} {
		l := many(n)
		root, p := rootOf(l), honest(l, 0, n)
		if !check.Sound(root, p) {
			t.Fatal(n)
		}
		for bit := range 256 {
			other := root
			other[bit/8] ^= 1 << (bit % 8)
			if check.Sound(other, p) {
				t.Errorf("%d, bit %d", n, bit)
			}
		}
	}
}

func TestEachBitOfThePaths(t *testing.T) {
	l := wide()
	root := rootOf(l)
	for _, part := range [][2]int{{0, 1}, {13, 17}, {28, 30}} {
		p := honest(l, part[0], part[1])
		for i, path := range p.Paths {
			for k := range path {
				for bit := range 256 {
					path[k][bit/8] ^= 1 << (bit % 8)
					if check.Sound(root, p) {
						t.Errorf("%d: path %d, hash %d, bit %d", part, i, k, bit)
					}
					path[k][bit/8] ^= 1 << (bit % 8)
				}
			}
		}
		if !check.Sound(root, p) {
			t.Fatal(part)
		}
	}
}

// A root is Tagged S of the count and the tree's: no other hash of these is one.
func TestWhatIsNoRoot(t *testing.T) {
	for n := 1; n <= mostPairs; n++ {
		l := many(n)
		p := honest(l, 0, n)
		top, _ := treeOf(l)
		for i, root := range [][]byte{top, tagged('S', top), tagged('S', top, []byte{byte(n)}), tagged('s', []byte{byte(n)}, top), tagged(0, []byte{byte(n)}, top),
			tagged('S', []byte{byte(n + 1)}, top), tagged('S', []byte{byte(n - 1)}, top), tagged('S', []byte{byte(n)}), make([]byte, 32)} {
			if check.Sound(api.Hash(root), p) {
				t.Errorf("%d of %d", i, n)
			}
		}
	}
}

// A path that leads nowhere leads to no zero hash either.
func TestPathsThatLeadNowhere(t *testing.T) {
	for n := 1; n <= mostPairs; n++ {
		root := api.Hash(tagged('S', []byte{byte(n)}, make([]byte, 32)))
		for i := range n {
			for _, size := range []int{0, 1, 2, 3, 4, 5, 6, 40} {
				p := honest(many(n), i, i+1)
				p.Paths = [][]api.Hash{make([]api.Hash, size)}
				if check.Sound(root, p) || check.Exist(root, p.Pairs[0], p) {
					t.Errorf("%d of %d: %d hashes", i, n, size)
				}
			}
		}
	}
}

// P9.2

func TestExistOfEachPair(t *testing.T) {
	for n := 1; n <= mostPairs; n++ {
		l := many(n)
		root := rootOf(l)
		for i, x := range l {
			p := honest(l, i, i+1)
			for k, y := range l {
				if got := check.Exist(root, y, p); got != (i == k) {
					t.Errorf("%d and %d of %d: %v", i, k, n, got)
				}
			}
			if check.Exist(root, api.Pair{Key: x.Key, Value: x.Value + "v"}, p) || check.Exist(root, api.Pair{Key: x.Key + "v", Value: x.Value}, p) || check.Exist(root, api.Pair{Key: x.Key}, p) != (x.Value == "") {
				t.Errorf("%d of %d: another pair", i, n)
			}
			// What is shown beside it makes it another proof.
			if i+2 <= n {
				two := honest(l, i, i+2)
				if !check.Sound(root, two) || check.Exist(root, x, two) || check.Exist(root, l[i+1], two) {
					t.Errorf("%d of %d: two pairs", i, n)
				}
			}
			p.First++
			if check.Exist(root, x, p) || check.Exist(api.Hash{}, x, honest(l, i, i+1)) {
				t.Errorf("%d of %d: not sound", i, n)
			}
		}
	}
	if check.Exist(store.Root(nil), api.Pair{}, api.Proof{}) || check.Exist(api.Hash{}, api.Pair{}, api.Proof{}) {
		t.Error("no pair")
	}
	// A pair that may not be one isn't shown, though its root is known.
	bad := []api.Pair{{Key: ""}}
	if check.Exist(rootOf(bad), bad[0], honest(bad, 0, 1)) {
		t.Error("no key")
	}
}

// P9.3

// The document's own run.
func TestTheRun(t *testing.T) {
	l := []api.Pair{{Key: "a", Value: "1"}, {Key: "c", Value: "3"}, {Key: "e", Value: "5"}}
	root := store.Root(l)
	if got, ok := check.Range(root, "b", "d", prove.Range(l, "b", "d")); !ok || !slices.Equal(got, l[1:2]) {
		t.Errorf("%q, %v", got, ok)
	}
	if got, ok := check.Range(root, "b", "d", prove.Some(l, 0, 2)); ok || len(got) != 0 {
		t.Errorf("%q, %v", got, ok)
	}
}

func TestKnownRanges(t *testing.T) {
	l := []api.Pair{{Key: "b", Value: "1"}, {Key: "d"}, {Key: "f", Value: "3"}, {Key: "h", Value: "4"}, {Key: "j", Value: "5"}}
	root := rootOf(l)
	for _, k := range []struct {
		from, to   int
		start, end string
		in, out    int // places of the range; -1: not shown
	}{
		{0, 5, "", "\xff", 0, 5}, {0, 5, "c", "i", 1, 4}, {0, 5, "d", "d", 1, 1}, {0, 5, "z", "a", 0, 0},
		// The pair ahead is below start, and not start itself.
		{1, 4, "e", "h", 2, 3}, {1, 4, "d\x00", "h", 2, 3}, {1, 4, "d", "h", -1, 0}, {1, 4, "c", "h", -1, 0}, {1, 4, "", "h", -1, 0},
		// The pair beyond is end itself, or above.
		{1, 4, "e", "g", 2, 3}, {1, 4, "e", "gz", 2, 3}, {1, 4, "e", "h\x00", -1, 0}, {1, 4, "e", "i", -1, 0}, {1, 4, "e", "\xff", -1, 0},
		// The row's ends are bounds themselves.
		{0, 2, "", "d", 0, 1}, {0, 2, "a", "c", 0, 1}, {0, 2, "b", "d", 0, 1}, {0, 2, "b", "d\x00", -1, 0}, {0, 2, "c", "e", -1, 0},
		{3, 5, "i", "\xff", 4, 5}, {3, 5, "j", "j\x00", 4, 5}, {3, 5, "k", "z", 0, 0}, {3, 5, "h\x00", "j", 0, 0}, {3, 5, "h", "z", -1, 0}, {4, 5, "j", "z", -1, 0}, {4, 5, "k", "z", 0, 0},
		// Where the end is below the start, the pair beyond is not below the start.
		{1, 3, "e", "a", 0, 0}, {1, 3, "f", "a", 0, 0}, {1, 3, "f\x00", "a", -1, 0}, {0, 1, "b", "", 0, 0}, {0, 1, "c", "", -1, 0}, {4, 5, "z", "", 0, 0},
		// One pair alone bounds on one side.
		{0, 1, "", "b", 0, 0}, {0, 1, "", "a", 0, 0}, {0, 1, "", "c", -1, 0}, {2, 3, "e", "e", -1, 0}, {2, 3, "f", "f", -1, 0}, {2, 3, "g", "g", -1, 0},
	} {
		got, ok := check.Range(root, k.start, k.end, honest(l, k.from, k.to))
		if k.in < 0 {
			if ok || got != nil {
				t.Errorf("%d to %d, %q to %q: %q, %v", k.from, k.to, k.start, k.end, got, ok)
			}
			continue
		}
		if !ok || !slices.Equal(got, l[k.in:k.out]) {
			t.Errorf("%d to %d, %q to %q: %q, %v", k.from, k.to, k.start, k.end, got, ok)
		}
	}
}

func TestKnownAbsences(t *testing.T) {
	l := []api.Pair{{Key: "b", Value: "c"}, {Key: "d"}, {Key: "f", Value: "e"}}
	root := rootOf(l)
	for _, k := range []struct {
		from, to int
		key      string
		want     bool
	}{
		{0, 2, "c", true}, {1, 3, "e", true}, {0, 2, "b\x00", true}, {0, 3, "c", true}, {0, 3, "e", true}, {0, 2, "cccccccccccccccccccc", true},
		{0, 1, "a", true}, {0, 1, "", true}, {2, 3, "g", true}, {2, 3, "\xff", true}, {0, 3, "a", true}, {0, 3, "z", true},
		{0, 1, "b", false}, {0, 2, "b", false}, {0, 2, "d", false}, {1, 2, "d", false}, {0, 3, "d", false}, {1, 3, "f", false}, {2, 3, "f", false}, {0, 3, "f", false},
		{0, 1, "c", false}, {1, 2, "c", false}, {1, 3, "c", false}, {0, 2, "e", false}, {0, 2, "d\x00", false}, {2, 3, "e", false}, {1, 2, "e", false},
		{1, 3, "a", false}, {1, 3, "", false}, {0, 2, "g", false}, {1, 2, "a", false}, {1, 2, "z", false},
	} {
		if got := check.Absent(root, k.key, honest(l, k.from, k.to)); got != k.want {
			t.Errorf("%d to %d, %q: %v", k.from, k.to, k.key, got)
		}
	}
	// Both neighbours, but not what stands between them.
	gap := honest(l, 0, 3)
	gap.Pairs, gap.Paths = slices.Delete(gap.Pairs, 1, 2), slices.Delete(slices.Clone(gap.Paths), 1, 2)
	if check.Absent(root, "d", gap) || check.Absent(root, "c", gap) {
		t.Error("a gap")
	}
	for _, key := range asked() {
		if !check.Absent(store.Root(nil), key, api.Proof{}) || check.Absent(root, key, api.Proof{}) || check.Absent(api.Hash{}, key, api.Proof{}) || check.Absent(root, key, api.Proof{Count: 3}) {
			t.Errorf("no pairs: %.40q", key)
		}
		if got, ok := check.Range(store.Root(nil), key, "z", api.Proof{}); !ok || len(got) != 0 {
			t.Errorf("no pairs: %.40q", key)
		}
	}
}

func TestEachPartOfEachRowOfTheEdges(t *testing.T) {
	keys := asked()
	eachRow(func(l []api.Pair) {
		root := rootOf(l)
		eachPart(l, func(p api.Proof) { agree(t, root, p, len(p.Pairs) > 0 || len(l) == 0, keys) })
	})
}

// P9.4

func TestKnownCosts(t *testing.T) {
	hs := make([]api.Hash, 40)
	for i, k := range []struct {
		p    api.Proof
		want int
	}{
		{api.Proof{}, 2},
		{api.Proof{First: 7, Pairs: many(4), Paths: [][]api.Hash{hs, hs}}, 2},
		{api.Proof{Paths: [][]api.Hash{hs}}, 2},
		{api.Proof{Pairs: many(1)}, 2},
		{api.Proof{Count: 1}, 0},
		{api.Proof{Count: -1}, 0},
		{api.Proof{Count: math.MinInt, Pairs: many(3)}, 6},
		{api.Proof{Count: math.MaxInt, Pairs: many(3), Paths: [][]api.Hash{hs[:2], hs[:1], nil, {}}}, 9},
		{api.Proof{Count: 1, Pairs: many(1), Paths: [][]api.Hash{{}}}, 2},
		{api.Proof{Count: 1, Pairs: many(1)}, 2},
		{api.Proof{Count: 5, Paths: [][]api.Hash{hs}}, 40},
		{api.Proof{Count: 5, Pairs: many(2), Paths: [][]api.Hash{hs, hs[:3]}}, 47},
		{api.Proof{Count: 31, Pairs: many(60), Paths: slices.Repeat([][]api.Hash{hs}, 5000)}, 200120},
		{honest(many(3), 0, 3), 5 + 6},
		{honest(many(30), 0, 30), 148 + 60},
		{honest(many(30), 30, 30), 0},
		{honest(many(30), 0, 1), 5 + 2},
		{honest(many(30), 29, 30), 4 + 2},
	} {
		if got := check.Cost(k.p); got != k.want {
			t.Errorf("%d: %d, not %d", i, got, k.want)
		}
	}
}

// Of what is made of a row: each leaf, each step up its path, and the root above.
func TestCostsOfParts(t *testing.T) {
	for n := 1; n <= mostPairs; n++ {
		for from := range n {
			want := 0
			for to := from + 1; to <= n; to++ {
				want += 1 + tree.Depth(to-1, n) + 1
				if got := check.Cost(prove.Some(many(n), from, to)); got != want {
					t.Errorf("%d to %d of %d: %d, not %d", from, to, n, got, want)
				}
			}
		}
	}
}

// P9.5

func TestWhatIsMadeIsVerified(t *testing.T) {
	for n := range mostPairs + 1 {
		l := many(n)
		root := store.Root(l)
		keys := []string{"", "a", "\xff"}
		for _, x := range l {
			keys = append(keys, x.Key, x.Key+"\x00")
		}
		for i, key := range keys {
			value, there := kv.Get(l, key)
			if p, ok := prove.Exist(l, key); ok != there || check.Exist(root, api.Pair{Key: key, Value: value}, p) != there {
				t.Errorf("Exist of %q of %d", key, n)
			}
			if p, ok := prove.Absent(l, key); ok == there || check.Absent(root, key, p) == there {
				t.Errorf("Absent of %q of %d", key, n)
			}
			for k := i % 5; k < len(keys); k += 5 {
				got, ok := check.Range(root, key, keys[k], prove.Range(l, key, keys[k]))
				if !ok || !slices.Equal(got, kv.Range(l, key, keys[k])) {
					t.Errorf("Range of %q to %q of %d: %q, %v", key, keys[k], n, got, ok)
				}
			}
		}
	}
}

// No part of a row says what isn't so of it, whatever is asked.
func TestWhatIsVerifiedIsSo(t *testing.T) {
	for n := range 9 {
		l := many(n)
		root := store.Root(l)
		keys := []string{"", "a", "\xff"}
		for _, x := range l {
			keys = append(keys, x.Key, x.Key+"\x00")
		}
		eachPart(l, func(p api.Proof) {
			for _, start := range keys {
				if check.Absent(root, start, p) && hasKey(l, start) {
					t.Errorf("%q: %s", start, short(p))
				}
				for _, end := range keys {
					if got, ok := check.Range(root, start, end, p); ok && !slices.Equal(got, inRange(l, start, end)) {
						t.Errorf("%q to %q: %q, %s", start, end, got, short(p))
					}
				}
			}
		})
	}
}

// A proof of one row shows nothing of another one.
func TestProofsOfOtherRows(t *testing.T) {
	var rows [][]api.Pair
	eachRow(func(l []api.Pair) { rows = append(rows, l) })
	other := many(4)
	other[2].Value = "other"
	rows = append(rows, many(3), many(4), other)
	for i, l := range rows {
		eachPart(l, func(p api.Proof) {
			for k, m := range rows {
				want := i == k && (len(p.Pairs) > 0 || len(l) == 0)
				if check.Sound(rootOf(m), p) != want {
					t.Errorf("%q against %q: %s", l, m, short(p))
				}
			}
		})
	}
}

// Pairs and paths of two versions of a row don't go together, though each is right in its own.
func TestMixedProofs(t *testing.T) {
	for n := 2; n <= mostPairs; n++ {
		old, now := many(n), many(n)
		at := n / 2
		now[at].Value = "now"
		p, q := honest(old, 0, n), honest(now, 0, n)
		for _, root := range []api.Hash{rootOf(old), rootOf(now)} {
			for cut := 1; cut < n; cut++ {
				mixed := api.Proof{Count: n, Pairs: slices.Concat(p.Pairs[:cut], q.Pairs[cut:]), Paths: slices.Concat(p.Paths[:cut], q.Paths[cut:])}
				if check.Sound(root, mixed) {
					t.Errorf("%d of %d", cut, n)
				}
			}
			if check.Sound(root, api.Proof{Count: n, Pairs: p.Pairs, Paths: q.Paths}) || check.Sound(root, api.Proof{Count: n, Pairs: q.Pairs, Paths: p.Paths}) {
				t.Errorf("paths of %d", n)
			}
		}
	}
}

// R1, R2, R4, R5: every call ends; what is handed in stays as it is, and an answer is its caller's.

func TestCallsEndForAnyProof(t *testing.T) {
	long := make([]api.Hash, 1<<20)
	huge := strings.Repeat("k", 1<<20)
	pairs := slices.Repeat([]api.Pair{{Key: huge, Value: huge}}, 70000)
	for _, count := range numbers() {
		for _, first := range []int{math.MinInt, -1, 0, 1, 29, math.MaxInt} {
			for _, l := range [][]api.Pair{nil, make([]api.Pair, 1), many(1), many(30), many(40), pairs} {
				for _, paths := range [][][]api.Hash{nil, make([][]api.Hash, len(l)), slices.Repeat([][]api.Hash{long}, len(l)), {long}} {
					p := api.Proof{Count: count, First: first, Pairs: l, Paths: paths}
					x := append(l[:len(l):len(l)], api.Pair{})[0]
					root := store.Root(nil)
					sound := check.Sound(root, p)
					if sound != (count == 0 && first == 0 && len(l)+len(paths) == 0) {
						t.Fatalf("%v: %d of %d from %d on, %d paths", sound, len(l), count, first, len(paths))
					}
					got, ok := check.Range(root, "", huge, p)
					if check.Exist(root, x, p) || check.Absent(root, huge, p) != sound || ok != sound || len(got) != 0 {
						t.Fatalf("%d of %d from %d on, %d paths", len(l), count, first, len(paths))
					}
					check.Cost(p)
				}
			}
		}
	}
}

// What stands behind a list's length, though it would make the proof whole, is not read.
func TestRoomIsNotRead(t *testing.T) {
	l := many(8)
	root := rootOf(l)
	for to := 3; to <= 8; to++ {
		whole := honest(l, 2, to)
		if !check.Sound(root, whole) {
			t.Fatal(to)
		}
		less, fewer := clone(whole), clone(whole)
		less.Pairs, fewer.Paths = less.Pairs[:to-3], fewer.Paths[:to-3]
		cut, more := clone(whole), clone(whole)
		cut.Paths[0] = cut.Paths[0][:2]
		more.Paths[0] = append(more.Paths[0], api.Hash{1})
		more.Paths[0] = more.Paths[0][:3]
		for i, p := range []api.Proof{less, fewer, cut} {
			agree(t, root, p, false, []string{"", "b", "bc", "\xff"})
			if check.Sound(root, p) {
				t.Errorf("%d, %d", i, to)
			}
		}
		agree(t, root, more, true, []string{"", "b", "bc", "\xff"})
		none := clone(whole)
		none.Pairs, none.Paths = none.Pairs[:0], none.Paths[:0]
		agree(t, root, none, false, []string{"", "b", "\xff"})
	}
}

func TestNilAndEmptyLists(t *testing.T) {
	one := many(1)
	for i, paths := range [][][]api.Hash{{nil}, {{}}, {make([]api.Hash, 0, 3)}} {
		p := api.Proof{Count: 1, Pairs: one, Paths: paths}
		if !check.Sound(rootOf(one), p) || !check.Exist(rootOf(one), one[0], p) || check.Cost(p) != 2 {
			t.Error(i)
		}
	}
	for i, p := range []api.Proof{{}, {Pairs: []api.Pair{}}, {Paths: [][]api.Hash{}}, {Pairs: many(3)[:0], Paths: [][]api.Hash{{}, {}}[:0]}} {
		got, ok := check.Range(rootOf(nil), "", "z", p)
		if !ok || len(got) != 0 || !check.Sound(rootOf(nil), p) || !check.Absent(rootOf(nil), "a", p) || check.Cost(p) != 2 {
			t.Error(i)
		}
	}
}

func TestCallsLeaveWhatTheyAreGiven(t *testing.T) {
	l := many(12)
	root := rootOf(l)
	for _, f := range turns() {
		p := clone(honest(l, 2, 9))
		f(&p)
		p.Pairs = append(slices.Clone(p.Pairs), api.Pair{Key: "behind", Value: "the pairs"})
		p.Paths = append(slices.Clone(p.Paths), []api.Hash{{1}})
		for i, path := range p.Paths {
			p.Paths[i] = append(slices.Clone(path), api.Hash{2})
		}
		before, given := clone(p), clone(p)
		given.Pairs, given.Paths = given.Pairs[:len(given.Pairs)-1], given.Paths[:len(given.Paths)-1]
		for i, path := range given.Paths {
			given.Paths[i] = path[:len(path)-1]
		}
		check.Sound(root, given)
		check.Exist(root, l[2], given)
		check.Absent(root, "bg", given)
		check.Range(root, "bg", "cz", given)
		check.Cost(given)
		given.Pairs, given.Paths = given.Pairs[:len(given.Pairs)+1], given.Paths[:len(given.Paths)+1]
		for i, path := range given.Paths[:len(given.Paths)-1] {
			given.Paths[i] = path[:len(path)+1]
		}
		if !same(given, before) {
			t.Errorf("changed: %s, not %s", short(given), short(before))
		}
	}
}

func TestAnswersAreNewMemory(t *testing.T) {
	l := many(12)
	root := rootOf(l)
	for _, key := range []string{"b", "bg", "bp", "cb", "cz"} {
		for _, end := range []string{"a", "bz", "cf", "\xff"} {
			p := clone(honest(l, 0, 12))
			got, ok := check.Range(root, key, end, p)
			if !ok {
				t.Fatal(key, end)
			}
			room := got[:cap(got)]
			for i := range room {
				room[i] = api.Pair{Key: "spoilt"}
			}
			if !same(p, honest(l, 0, 12)) {
				t.Errorf("%q to %q: the proof is shared", key, end)
			}
			got, _ = check.Range(root, key, end, p)
			for i := range p.Pairs {
				p.Pairs[i] = api.Pair{Key: "later"}
			}
			if !slices.Equal(got, inRange(l, key, end)) {
				t.Errorf("%q to %q: the answer is shared", key, end)
			}
		}
	}
}

// FuzzTurned turns the proof of a part of a row that the text says, by a step for each two bytes.
func FuzzTurned(f *testing.F) {
	f.Add("a=1,c=3,e=5", "b", "d", 0, 3, []byte{})
	f.Add("a=1,c=3,e=5", "b", "d", 0, 2, []byte{3, 0, 1, 1})
	f.Add("\x80=2,\xff=,a=aaaaaaaaaaaaaaaaaaaaaaaa,aaaaaaaaaaaaaaaa=1", "", "\xff", 1, 4, []byte{20, 1, 21, 2})
	f.Add("", "b", "a", 0, 0, []byte{7, 7})
	f.Fuzz(func(t *testing.T, text, start, end string, from, to int, steps []byte) {
		var l []api.Pair
		for part := range strings.SplitSeq(text, ",") {
			key, value, _ := strings.Cut(part, "=")
			l, _ = kv.Set(l, api.Pair{Key: key, Value: value})
		}
		p := clone(prove.Some(l, from, to))
		for step := range slices.Chunk(steps[:min(len(steps), 20)], 2) {
			fs := turns()
			if shown := min(len(p.Pairs), len(p.Paths)); shown > 0 && p.Pairs[int(step[len(step)-1])%shown].Key != "" {
				fs = append(fs, placedTurns(int(step[len(step)-1])%shown)...)
			}
			fs[int(step[0])%len(fs)](&p)
		}
		agree(t, store.Root(l), p, isHonest(l, p), []string{start, end})
	})
}
