package store_test

import (
	"crypto/sha256"
	"encoding/hex"
	"fmt"
	"maps"
	"math"
	"slices"
	"strconv"
	"strings"
	"testing"

	"affiant/api"
	"affiant/kv"
	"affiant/sha"
	"affiant/store"
	"affiant/tree"
	"affiant/vint"
)

// Limits of the document, in its own numbers.
const (
	mostPairs  = 30
	mostKey    = 16
	mostValue  = 24
	mostHeight = 16
	mostKept   = 6
)

// tagged, leafOf, topOf, rootOf: what P7.1 says, by the library's hash, and by levels of the tree from the leaves on.

func tagged(tag byte, parts ...[]byte) []byte {
	h := sha256.Sum256(append([]byte{tag}, slices.Concat(parts...)...))
	return h[:]
}

func leafOf(p api.Pair) []byte {
	return slices.Concat([]byte{byte(len(p.Key))}, []byte(p.Key), []byte{byte(len(p.Value))}, []byte(p.Value))
}

func topOf(l []api.Pair) []byte {
	if len(l) == 0 {
		return tagged(2)
	}
	var row [][]byte
	for _, p := range l {
		row = append(row, tagged(0, leafOf(p)))
	}
	for len(row) > 1 {
		var next [][]byte
		for two := range slices.Chunk(row, 2) {
			if len(two) == 2 {
				next = append(next, tagged(1, two...))
			} else {
				next = append(next, two[0])
			}
		}
		row = next
	}
	return row[0]
}

func rootOf(l []api.Pair) api.Hash {
	return api.Hash(tagged('S', []byte{byte(len(l))}, topOf(l)))
}

// model is what P7.2 says, with all versions that there ever were.
type model struct {
	now      map[string]string
	versions []map[string]string
}

func rowOf(m map[string]string) []api.Pair {
	var l []api.Pair
	for _, key := range slices.Sorted(maps.Keys(m)) {
		l = append(l, api.Pair{Key: key, Value: m[key]})
	}
	return l
}

func (m *model) set(p api.Pair) bool {
	_, there := m.now[p.Key]
	if p.Key == "" || len(p.Key) > mostKey || len(p.Value) > mostValue || !there && len(m.now) == mostPairs {
		return false
	}
	if m.now == nil {
		m.now = map[string]string{}
	}
	m.now[p.Key] = p.Value
	return true
}

func (m *model) commit() int {
	if len(m.versions) == mostHeight {
		return 0
	}
	m.versions = append(m.versions, maps.Clone(m.now))
	return len(m.versions)
}

func (m *model) copy() *model {
	return &model{now: maps.Clone(m.now), versions: slices.Clone(m.versions)}
}

// heights: all that there may be, and such as are none, some of them heights but for bits that a narrow number hasn't.
func heights() []int {
	hs := []int{math.MinInt, math.MinInt + 1, math.MinInt + 6, math.MinInt32, -1 << 16, -256, -17, -16, -7, -6, -5, -2, -1,
		255, 256, 257, 262, 1<<16 + 1, 1<<32 + 1, 1<<32 + 12, -1<<32 + 1, math.MaxInt32, math.MaxInt - 5, math.MaxInt - 1, math.MaxInt}
	for h := range mostHeight + 9 {
		hs = append(hs, h)
	}
	return hs
}

// fault is the first thing that the store answers otherwise than the model says; "", if there is none.
func fault(s *store.Store, m *model) string {
	if s.Height() != len(m.versions) {
		return fmt.Sprintf("Height %d, not %d", s.Height(), len(m.versions))
	}
	if now := s.Now(); !slices.Equal(now, rowOf(m.now)) {
		return fmt.Sprintf("Now %q, not %q", now, rowOf(m.now))
	}
	var kept []int
	for h := 1; h <= len(m.versions); h++ {
		if h+mostKept > len(m.versions) {
			kept = append(kept, h)
		}
	}
	if !slices.Equal(s.Kept(), kept) {
		return fmt.Sprintf("Kept %d, not %d", s.Kept(), kept)
	}
	for _, h := range heights() {
		var row []api.Pair
		var root api.Hash
		in := slices.Contains(kept, h)
		if in {
			row = rowOf(m.versions[h-1])
			root = rootOf(row)
		}
		if l, ok := s.At(h); ok != in || !slices.Equal(l, row) {
			return fmt.Sprintf("At %d: %q, %v, not %q, %v", h, l, ok, row, in)
		}
		if r, ok := s.Root(h); ok != in || r != root {
			return fmt.Sprintf("Root %d: %x, %v, not %x, %v", h, r, ok, root, in)
		}
	}
	return ""
}

func holds(t *testing.T, s *store.Store, m *model, where ...any) {
	t.Helper()
	if f := fault(s, m); f != "" {
		t.Fatalf("%v: %s", where, f)
	}
}

// many is a row of n pairs, right if n is mostPairs at most: between its keys there is room.
func many(n int) []api.Pair {
	l := make([]api.Pair, n)
	for i := range l {
		l[i] = api.Pair{Key: string([]byte{'b' + byte(i/8), 'b' + 2*byte(i%8)}), Value: strings.Repeat("v", i%(mostValue+1))}
	}
	return l
}

// storeOf is a store, and its model, of those pairs, which nothing is kept of.
func storeOf(t *testing.T, l []api.Pair) (*store.Store, *model) {
	t.Helper()
	s, m := store.New(), &model{}
	for _, p := range l {
		if !s.Set(p) || !m.set(p) {
			t.Fatalf("%q", p)
		}
	}
	return s, m
}

// grown is a store, and its model, of so many heights, each of which has pairs of its own.
func grown(t *testing.T, height int) (*store.Store, *model) {
	t.Helper()
	s, m := storeOf(t, many(3))
	for h := range height {
		p := api.Pair{Key: "h" + strconv.Itoa(h%4), Value: strconv.Itoa(h)}
		if !s.Set(p) || !m.set(p) {
			t.Fatalf("%q", p)
		}
		if h%3 == 2 {
			s.Del("h0")
			delete(m.now, "h0")
		}
		if s.Commit() != m.commit() {
			t.Fatal(h)
		}
	}
	return s, m
}

// wrongPairs: no store may have them.
func wrongPairs() []api.Pair {
	long, wide := strings.Repeat("d", mostKey), strings.Repeat("v", mostValue)
	return []api.Pair{
		{},
		{Value: "v"},
		{Key: long + "d"},
		{Key: long + "d", Value: wide},
		{Key: strings.Repeat("d", 257)},
		{Key: strings.Repeat("d", 1<<16+1)},
		{Key: "d", Value: wide + "v"},
		{Key: long, Value: wide + "v"},
		{Key: "d", Value: strings.Repeat("v", 256)},
		{Key: strings.Repeat("\u00e9", 8) + "d"},
	}
}

// edgePairs: just right.
func edgePairs() []api.Pair {
	long, wide := strings.Repeat("d", mostKey), strings.Repeat("v", mostValue)
	return []api.Pair{
		{Key: "d"},
		{Key: long, Value: wide},
		{Key: "\x00"},
		{Key: "\xff", Value: "\x00"},
		{Key: strings.Repeat("\x00", mostKey), Value: strings.Repeat("\x00", mostValue)},
		{Key: strings.Repeat("\xff", mostKey), Value: strings.Repeat("\xff", mostValue)},
		{Key: strings.Repeat("\u00e9", 8), Value: strings.Repeat("\u20ac", 8)},
	}
}

// draws gives numbers below n, one after the other, the same in each run.
func draws(seed uint64) func(n int) int {
	state := seed
	return func(n int) int {
		state = state*6364136223846793005 + 1442695040888963407
		return int(state>>33) % n
	}
}

// P7.1

// numbered is a row of full size, whose keys and values are what those say of a place.
func numbered(key, value func(i int) string) []api.Pair {
	l := make([]api.Pair, mostPairs)
	for i := range l {
		l[i] = api.Pair{Key: key(i), Value: value(i)}
	}
	return l
}

// The roots are worked out by another program, in another language, which goes by halves.
func TestKnownRoots(t *testing.T) {
	five := make([]api.Pair, 5)
	for i := range five {
		letter := string([]byte{'a' + byte(i)})
		five[i] = api.Pair{Key: letter, Value: strings.Repeat(letter, i)}
	}
	full := numbered(func(i int) string { return fmt.Sprintf("%02d", i) }, func(i int) string { return strings.Repeat("v", i%25) })
	wide := numbered(func(i int) string { return fmt.Sprintf("%016d", i) }, func(i int) string { return fmt.Sprintf("%024d", i) })
	for _, c := range []struct {
		l    []api.Pair
		want string
	}{
		{nil, "6a6eebcc368947e4a8853bd065421c5637f6876f9aa0b881dcf613106726ec61"},
		{[]api.Pair{}, "6a6eebcc368947e4a8853bd065421c5637f6876f9aa0b881dcf613106726ec61"},
		{[]api.Pair{{Key: "a", Value: "1"}}, "08ed21d5b32ee813a3971e9da8089ea7e008f2011f4202567e2697654e299817"},
		{[]api.Pair{{Key: "a"}}, "88f987808dae042c904467f5135d02d2286dfc490c51f89a5ce036834eb0c508"},
		{[]api.Pair{{Key: "a", Value: "1"}, {Key: "c", Value: "3"}, {Key: "e", Value: "5"}}, "438097521f1a165d5bc246d79b424bbb12ddce1e5ef0186c2d1379b0530fc555"},
		{[]api.Pair{{Key: "\x00", Value: "\xff"}, {Key: "\x80"}, {Key: strings.Repeat("\xff", 16), Value: strings.Repeat("\x00", 24)}},
			"b5a3f42fc61cfbc66c5a67edfd15b6694a561a889f4c00561d22990e4032d25a"},
		{five, "6293f293c9f1c1b037b91b169a7b67995026bae70cb799961b140ff929b7070b"},
		{full, "5ab1692a9536f32d583ce37ca45b513394da554fda40fad1500bce7555a3126b"},
		{wide, "bb9de078ce730c107a65a955e9ff6de9d54f1f9b105f1cb69d1ea57008659271"},
	} {
		if got := store.Root(c.l); hex.EncodeToString(got[:]) != c.want {
			t.Errorf("%q: %x", c.l, got)
		}
	}
}

func TestRootOfSoManyPairs(t *testing.T) {
	for n := range mostPairs + 1 {
		l := many(n)
		var leaves [][]byte
		for _, p := range l {
			leaves = append(leaves, kv.Leaf(p))
		}
		top := tree.Root(leaves...)
		got := store.Root(l)
		if got != sha.Tagged('S', vint.Put(n), top[:]) || got != rootOf(l) {
			t.Errorf("%d: %x", n, got)
		}
	}
}

func TestRootOfEdgesOfPairs(t *testing.T) {
	for _, p := range edgePairs() {
		if l := []api.Pair{p}; store.Root(l) != rootOf(l) {
			t.Errorf("%q", p)
		}
		if l := []api.Pair{{Key: "\x00\x01"}, p}; kv.Right(l) && store.Root(l) != rootOf(l) {
			t.Errorf("%q, behind another", p)
		}
	}
}

// Each row that there is of some keys and values whose bytes look like lengths, or like one another's: 3^7 of them.
func TestUnlikeRowsHaveUnlikeRoots(t *testing.T) {
	keys := []string{"\x00", "\x01", "\x01a", "a", "a\x00", "a\x01", "b"}
	values := []string{"", "\x01a"}
	seen := map[api.Hash][]api.Pair{}
	for n := range 2187 {
		var l []api.Pair
		for rest, i := n, 0; i < len(keys); rest, i = rest/3, i+1 {
			if rest%3 < len(values) {
				l = append(l, api.Pair{Key: keys[i], Value: values[rest%3]})
			}
		}
		root := store.Root(l)
		if other, ok := seen[root]; ok {
			t.Fatalf("%q and %q", l, other)
		}
		if root != rootOf(l) {
			t.Fatalf("%q", l)
		}
		seen[root] = l
	}
}

func TestRootOfOneThingTurned(t *testing.T) {
	for _, n := range []int{1, 2, 3, 8, 17, mostPairs} {
		seen := map[api.Hash]string{store.Root(many(n)): "as it is"}
		see := func(l []api.Pair, what string) {
			if other, ok := seen[store.Root(l)]; ok {
				t.Errorf("%d pairs: %s, and %s", n, what, other)
			}
			seen[store.Root(l)] = what
		}
		for i := range n {
			l := many(n)
			l[i].Value = "other"
			see(l, fmt.Sprint("other value ", i))
			l = many(n)
			l[i].Key += "\x00"
			see(l, fmt.Sprint("other key ", i))
			see(slices.Delete(many(n), i, i+1), fmt.Sprint("without ", i))
		}
	}
}

func TestRootOfTheLengthAlone(t *testing.T) {
	whole := many(mostPairs)
	for n := range mostPairs {
		if store.Root(whole[:n]) != rootOf(many(n)) {
			t.Error(n)
		}
	}
	if !slices.Equal(whole, many(mostPairs)) {
		t.Error("changed")
	}
}

// P7.2

func TestNewStores(t *testing.T) {
	if api.MaxPairs != mostPairs || api.MaxKey != mostKey || api.MaxValue != mostValue || api.MaxHeight != mostHeight || api.MaxKept != mostKept {
		t.Fatal("limits")
	}
	s, other := store.New(), store.New()
	if s.Height() != 0 || len(s.Now()) != 0 || len(s.Kept()) != 0 {
		t.Error("new")
	}
	holds(t, s, &model{}, "new")
	if !s.Set(api.Pair{Key: "a"}) || s.Commit() != 1 {
		t.Error("first")
	}
	holds(t, other, &model{}, "new beside another")
}

// The document's own run.
func TestTheRun(t *testing.T) {
	s := store.New()
	if !s.Set(api.Pair{Key: "a", Value: "1"}) || s.Commit() != 1 {
		t.Fatal("Set, Commit")
	}
	s.Del("a")
	if s.Commit() != 2 {
		t.Fatal("Del, Commit")
	}
	if l, ok := s.At(1); !ok || !slices.Equal(l, []api.Pair{{Key: "a", Value: "1"}}) {
		t.Errorf("%q, %v", l, ok)
	}
	if l, ok := s.At(2); !ok || len(l) != 0 {
		t.Errorf("%q, %v", l, ok)
	}
}

func TestSetAndDelOfWhatIsNow(t *testing.T) {
	for n := range mostPairs + 1 {
		for _, height := range []int{0, 1} {
			s, m := storeOf(t, many(n))
			for range height {
				s.Commit()
				m.commit()
			}
			for i := -1; i < n; i++ {
				between := "a"
				if i >= 0 {
					between = many(n)[i].Key + "\x00"
				}
				for _, p := range []api.Pair{{Key: between, Value: "between"}, {Key: strings.TrimSuffix(between, "\x00"), Value: "in place"}} {
					c, d := s.Copy(), m.copy()
					if got, want := c.Set(p), d.set(p); got != want {
						t.Errorf("Set of %q among %d: %v", p, n, got)
					}
					holds(t, c, d, "Set", p, n)
					c, d = s.Copy(), m.copy()
					c.Del(p.Key)
					delete(d.now, p.Key)
					holds(t, c, d, "Del", p.Key, n)
				}
			}
			holds(t, s, m, n)
		}
	}
}

func TestSetOfEdgesOfPairs(t *testing.T) {
	for _, p := range edgePairs() {
		s, m := storeOf(t, []api.Pair{{Key: "c"}, p, {Key: "e"}})
		holds(t, s, m, p)
		if s.Commit() != m.commit() {
			t.Error("Commit")
		}
		s.Del(p.Key)
		delete(m.now, p.Key)
		holds(t, s, m, "without", p)
	}
}

// What is refused changes nothing, neither now nor at the next heights.
func TestSetOfPairsThatMayNotBe(t *testing.T) {
	for _, n := range []int{0, 1, 12, mostPairs} {
		s, m := storeOf(t, many(n))
		for i, p := range wrongPairs() {
			if s.Set(p) {
				t.Errorf("%d among %d", i, n)
			}
			s.Del(p.Key)
			holds(t, s, m, n, i)
		}
		for _, q := range many(n) {
			if s.Set(api.Pair{Key: q.Key, Value: strings.Repeat("v", mostValue+1)}) {
				t.Errorf("%q among %d", q.Key, n)
			}
		}
		if s.Commit() != m.commit() {
			t.Error("Commit")
		}
		holds(t, s, m, n)
	}
}

func TestSetOfFullStores(t *testing.T) {
	s, m := storeOf(t, many(mostPairs))
	for _, key := range []string{"a", "bb\x00", "zz", "\xff"} {
		if s.Set(api.Pair{Key: key}) {
			t.Errorf("%q", key)
		}
		holds(t, s, m, key)
	}
	for i, q := range many(mostPairs) {
		p := api.Pair{Key: q.Key, Value: "new " + strconv.Itoa(i)}
		if !s.Set(p) || !m.set(p) {
			t.Errorf("%q", p)
		}
	}
	s.Commit()
	m.commit()
	s.Del("bb")
	delete(m.now, "bb")
	p := api.Pair{Key: "zz"}
	if !s.Set(p) || !m.set(p) || s.Set(api.Pair{Key: "bb"}) {
		t.Error("in place of one that went")
	}
	holds(t, s, m, "at the end")
}

func TestCommitKeepsWhatIsNow(t *testing.T) {
	s, m := storeOf(t, many(4))
	for h := 1; h <= mostKept; h++ {
		if got := s.Commit(); got != h || m.commit() != h {
			t.Fatalf("%d: %d", h, got)
		}
		holds(t, s, m, "kept", h)
		for _, key := range []string{"bb", "bd", "new"} {
			p := api.Pair{Key: key, Value: strconv.Itoa(h)}
			if !s.Set(p) || !m.set(p) {
				t.Fatalf("%q", p)
			}
			holds(t, s, m, "set since", h, key)
		}
		for _, key := range []string{"bf", "bd", "none"} {
			s.Del(key)
			delete(m.now, key)
			holds(t, s, m, "gone since", h, key)
		}
	}
}

// Heights without a change between them are each kept, with the same pairs and root.
func TestCommitOfNoChange(t *testing.T) {
	for _, n := range []int{0, 1, mostPairs} {
		s, m := storeOf(t, many(n))
		for h := 1; h <= mostHeight; h++ {
			if got := s.Commit(); got != h {
				t.Fatalf("%d: %d", h, got)
			}
			m.commit()
			holds(t, s, m, n, h)
		}
	}
}

func TestEachHeight(t *testing.T) {
	s, m := store.New(), &model{}
	for h := 1; h <= mostHeight; h++ {
		p := api.Pair{Key: "k" + strconv.Itoa(h), Value: strconv.Itoa(h)}
		if !s.Set(p) || !m.set(p) {
			t.Fatalf("%q", p)
		}
		holds(t, s, m, "ahead of", h)
		if got := s.Commit(); got != h || m.commit() != h {
			t.Fatalf("%d: %d", h, got)
		}
		holds(t, s, m, "at", h)
	}
}

// Beyond the last height nothing is kept, and what is now goes on alone.
func TestCommitBeyondTheLastHeight(t *testing.T) {
	s, m := grown(t, mostHeight)
	for i := range 20 {
		if got := s.Commit(); got != 0 {
			t.Fatal(got)
		}
		holds(t, s, m, "refused", i)
		p := api.Pair{Key: "later", Value: strconv.Itoa(i)}
		if !s.Set(p) || !m.set(p) {
			t.Fatalf("%q", p)
		}
		holds(t, s, m, "set", i)
		s.Del("bb")
		delete(m.now, "bb")
		holds(t, s, m, "gone", i)
	}
	if got := s.Kept(); !slices.Equal(got, []int{11, 12, 13, 14, 15, 16}) {
		t.Error(got)
	}
}

// Copies of each height, of which one goes on, or the other, or both, or a copy of one.
func TestCopiesGoOnAlone(t *testing.T) {
	turn := func(s *store.Store, m *model, text string) {
		for range 3 {
			for _, p := range []api.Pair{{Key: "bb", Value: text}, {Key: "new" + text, Value: text}} {
				if s.Set(p) != m.set(p) {
					t.Fatalf("%q", p)
				}
			}
			s.Del("bd")
			delete(m.now, "bd")
			if s.Commit() != m.commit() {
				t.Fatal("Commit")
			}
			text += "'"
		}
	}
	for height := range mostHeight + 1 {
		a, am := grown(t, height)
		b, bm := a.Copy(), am.copy()
		holds(t, b, bm, "copied", height)
		turn(a, am, "a")
		holds(t, a, am, "the first one went on", height)
		holds(t, b, bm, "the copy stayed", height)
		c, cm := b.Copy(), bm.copy()
		turn(b, bm, "b")
		holds(t, a, am, "the first one stayed", height)
		holds(t, b, bm, "the copy went on", height)
		holds(t, c, cm, "the copy's copy stayed", height)
		turn(c, cm, "c")
		turn(a, am, "d")
		holds(t, a, am, "all went on", height)
		holds(t, b, bm, "all went on", height)
		holds(t, c, cm, "all went on", height)
	}
}

// Two stores that go on from one another's versions in turn: rooms behind what they keep don't meet.
func TestCopiesInTurn(t *testing.T) {
	a, am := store.New(), &model{}
	for h := range mostHeight {
		b, bm := a.Copy(), am.copy()
		p, q := api.Pair{Key: "a" + strconv.Itoa(h)}, api.Pair{Key: "b" + strconv.Itoa(h)}
		if a.Set(p) != am.set(p) || b.Set(q) != bm.set(q) || a.Commit() != am.commit() || b.Commit() != bm.commit() {
			t.Fatal(h)
		}
		holds(t, a, am, h)
		holds(t, b, bm, h)
	}
}

// All calls in a long series, by several stores that are one another's copies, against the model.
func TestManyCalls(t *testing.T) {
	for seed := range uint64(30) {
		draw := draws(seed)
		stores, models := []*store.Store{store.New()}, []*model{{}}
		for step := range 150 {
			i := draw(len(stores))
			s, m := stores[i], models[i]
			key := "k" + strconv.Itoa(draw(36))
			switch draw(10) {
			case 0:
				if s.Commit() != m.commit() {
					t.Fatal(seed, step, "Commit")
				}
			case 1, 2:
				s.Del(key)
				delete(m.now, key)
			case 3:
				stores, models = append(stores, s.Copy()), append(models, m.copy())
			default:
				p := api.Pair{Key: key, Value: strings.Repeat("v", draw(mostValue+2))}
				if s.Set(p) != m.set(p) {
					t.Fatalf("%d, %d: Set of %q", seed, step, p)
				}
			}
			holds(t, s, m, seed, step)
			holds(t, stores[step%len(stores)], models[step%len(models)], seed, step)
		}
		for i := range stores {
			holds(t, stores[i], models[i], seed, "at the end", i)
		}
	}
}

// R1, R2, R5: every call ends; what is handed in stays as it is, and an answer is its caller's.

// Rows that aren't right: the call ends, whatever it answers.
func TestRootEndsForAnyRow(t *testing.T) {
	same := slices.Repeat([]api.Pair{{Key: "a"}}, 50)
	falls := many(100)
	slices.Reverse(falls)
	for _, l := range [][]api.Pair{same, falls, make([]api.Pair, 70), make([]api.Pair, 1), make([]api.Pair, 70000), wrongPairs(), many(1000)} {
		store.Root(l)
	}
}

func TestDelOfAnyKey(t *testing.T) {
	for _, height := range []int{0, 1, mostHeight} {
		s, m := grown(t, height)
		for _, key := range []string{"", "\x00", "b", "b\xff", "\xff", strings.Repeat("k", 17), strings.Repeat("k", 70000)} {
			s.Del(key)
			holds(t, s, m, height, key)
		}
	}
}

func TestRootLeavesTheRow(t *testing.T) {
	whole := append(many(8), api.Pair{Key: "behind"}, api.Pair{Key: "the row"})
	before := slices.Clone(whole)
	if store.Root(whole[:8]) != rootOf(many(8)) || !slices.Equal(whole, before) {
		t.Error("changed")
	}
	root := store.Root(whole[:8])
	whole[2].Value = "later"
	if root != rootOf(many(8)) || store.Root(whole[:8]) == root {
		t.Error("kept")
	}
}

// spoil overwrites the answer, and the room behind it.
func spoil[T any](l []T, with T) {
	l = l[:cap(l)]
	for i := range l {
		l[i] = with
	}
}

func TestAnswersAreNewMemory(t *testing.T) {
	for height := range mostHeight + 1 {
		s, m := grown(t, height)
		answers := func(s *store.Store) [][]api.Pair {
			all := [][]api.Pair{s.Now()}
			for _, h := range heights() {
				l, _ := s.At(h)
				all = append(all, l)
			}
			return all
		}
		first, second := answers(s), answers(s)
		other, kept := s.Copy(), s.Kept()
		wants := make([][]api.Pair, len(second))
		for i := range second {
			wants[i] = slices.Clone(second[i])
			spoil(first[i], api.Pair{Key: "spoilt"})
		}
		spoil(s.Kept(), 99)
		for i := range second {
			if !slices.Equal(second[i], wants[i]) {
				t.Fatalf("height %d, answer %d: shared", height, i)
			}
		}
		holds(t, s, m, "spoilt", height)
		holds(t, other, m, "spoilt, copy", height)
		for i := range second {
			_ = append(second[i], api.Pair{Key: "more"})
		}
		_ = append(kept, 99)
		holds(t, s, m, "more", height)
		for _, l := range answers(other) {
			spoil(l, api.Pair{Key: "spoilt"})
		}
		holds(t, s, m, "copy's spoilt", height)
		holds(t, other, m, "copy's spoilt, copy", height)
	}
}

// What was answered stays as it was, whatever becomes of the store.
func TestAnswersStay(t *testing.T) {
	s, m := grown(t, 4)
	now, kept := s.Now(), s.Kept()
	at, _ := s.At(4)
	wantNow, wantAt := slices.Clone(now), slices.Clone(at)
	for h := range mostHeight {
		for _, q := range wantNow {
			if !s.Set(api.Pair{Key: q.Key, Value: "later" + strconv.Itoa(h)}) {
				t.Fatalf("%q", q)
			}
		}
		s.Del(wantNow[0].Key)
		s.Set(api.Pair{Key: "zz"})
		s.Commit()
	}
	if !slices.Equal(now, wantNow) || !slices.Equal(at, wantAt) || !slices.Equal(kept, []int{1, 2, 3, 4}) || !slices.Equal(now, rowOf(m.now)) {
		t.Errorf("%q, %q, %d", now, at, kept)
	}
}

// FuzzStore does what the text says, and asks the store each time.
func FuzzStore(f *testing.F) {
	f.Add("a=1,!,c=2,b=3,-a,!,b=,*,!")
	f.Add(",=,-,aaaaaaaaaaaaaaaaa=1,\x80=2,*,\xff=,!,!,!,!,!,!,!,!,!,!,!,!,!,!,!,!,!")
	f.Add("a=aaaaaaaaaaaaaaaaaaaaaaaaa,a\x00=,!,-a\x00,*")
	f.Fuzz(func(t *testing.T, text string) {
		s, m := store.New(), &model{}
		old, oldModel := s, m
		for _, part := range strings.Split(text, ",") {
			key, del := strings.CutPrefix(part, "-")
			switch {
			case part == "!":
				if s.Commit() != m.commit() {
					t.Fatal("Commit")
				}
			case part == "*":
				holds(t, old, oldModel, "copied from")
				old, oldModel = s, m
				s, m = s.Copy(), m.copy()
			case del:
				s.Del(key)
				delete(m.now, key)
			default:
				key, value, _ := strings.Cut(part, "=")
				p := api.Pair{Key: key, Value: value}
				if s.Set(p) != m.set(p) {
					t.Fatalf("%q", p)
				}
			}
			holds(t, s, m, part)
		}
		holds(t, old, oldModel, "copied from")
	})
}
