package kv_test

import (
	"bytes"
	"slices"
	"strconv"
	"strings"
	"testing"

	"affiant/api"
	"affiant/kv"
	"affiant/vint"
)

// Limits of the document, in its own numbers.
const (
	mostPairs = 30
	mostKey   = 16
	mostValue = 24
)

// isBelow compares byte by byte: at the first place where they differ, or where one of them ends.
func isBelow(a, b string) bool {
	for i := range len(a) {
		if i == len(b) || a[i] > b[i] {
			return false
		}
		if a[i] < b[i] {
			return true
		}
	}
	return len(a) < len(b)
}

// rightOf, firstOf, getOf, setOf, delOf, rangeOf: what the promises say, pair by pair.

func mayBe(p api.Pair) bool {
	return len(p.Key) > 0 && len(p.Key) < mostKey+1 && len(p.Value) < mostValue+1
}

func rightOf(l []api.Pair) bool {
	good := len(l) <= mostPairs
	for i, p := range l {
		good = good && mayBe(p)
		for _, q := range l[:i] {
			good = good && isBelow(q.Key, p.Key)
		}
	}
	return good
}

func firstOf(l []api.Pair, key string) int {
	n := 0
	for _, p := range l {
		if isBelow(p.Key, key) {
			n++
		}
	}
	return n
}

func getOf(l []api.Pair, key string) (string, bool) {
	for _, p := range l {
		if p.Key == key {
			return p.Value, true
		}
	}
	return "", false
}

func setOf(l []api.Pair, p api.Pair) ([]api.Pair, bool) {
	out, put := []api.Pair{}, false
	for _, q := range l {
		if !put && !isBelow(q.Key, p.Key) {
			out, put = append(out, p), true
		}
		if q.Key != p.Key {
			out = append(out, q)
		}
	}
	if !put {
		out = append(out, p)
	}
	if !mayBe(p) || len(out) > mostPairs {
		return l, false
	}
	return out, true
}

func delOf(l []api.Pair, key string) []api.Pair {
	var out []api.Pair
	for _, p := range l {
		if p.Key != key {
			out = append(out, p)
		}
	}
	return out
}

func rangeOf(l []api.Pair, start, end string) []api.Pair {
	var out []api.Pair
	for _, p := range l {
		if !isBelow(p.Key, start) && isBelow(p.Key, end) {
			out = append(out, p)
		}
	}
	return out
}

// edges: keys, rising: each byte's ends, such as others begin with, and one of mostKey bytes.
var edges = []string{"\x00", "\x00\x00", "A", "a", "a\x00", "a\x00b", "aaaaaaaaaaaaaaaa", "b", "\x7f", "\x80", "\xff", "\xff\xff"}

// asked: the edges, and keys between, below, above them; some are none that a pair may have.
func asked() []string {
	return append(slices.Clone(edges), "", "\x01", "B", "a\x00a", "aa", "aaaaaaaaaaaaaaab", "ab", "a\xff", "\x7f\xff", "\x81", "\xff\x00", "\xff\xff\xff",
		strings.Repeat("a", mostKey-1), strings.Repeat("a", mostKey+1), strings.Repeat("a", 70000), strings.Repeat("\xff", 300))
}

// eachRow calls f with each row that there is of the edges: 4096 of them.
func eachRow(f func(l []api.Pair)) {
	for bits := range 1 << len(edges) {
		var l []api.Pair
		for i, key := range edges {
			if bits>>i&1 == 1 {
				l = append(l, api.Pair{Key: key, Value: strings.Repeat(strconv.Itoa(i), i)})
			}
		}
		f(l)
	}
}

// many is a right row, if n is mostPairs at most: its keys are of two letters, and leave room between.
func many(n int) []api.Pair {
	l := make([]api.Pair, n)
	for i := range l {
		l[i] = api.Pair{Key: string([]byte{'b' + byte(i/8), 'b' + 2*byte(i%8)}), Value: strconv.Itoa(i)}
	}
	return l
}

// wrongPairs: no row may have them.
func wrongPairs() []api.Pair {
	long, wide := strings.Repeat("d", mostKey), strings.Repeat("v", mostValue)
	return []api.Pair{
		{},
		{Value: "v"},
		{Key: "", Value: wide},
		{Key: long + "d"},
		{Key: long + "d", Value: wide},
		{Key: strings.Repeat("d", 256)},
		{Key: strings.Repeat("d", 257)},
		{Key: strings.Repeat("d", 1<<16+3)},
		{Key: "d", Value: wide + "v"},
		{Key: long, Value: wide + "v"},
		{Key: "d", Value: strings.Repeat("v", 256)},
		{Key: "d", Value: strings.Repeat("v", 256+3)},
		{Key: "d", Value: strings.Repeat("v", 1<<16)},
		{Key: "d" + strings.Repeat("\u00e9", 8)},
		{Key: "d", Value: strings.Repeat("\u20ac", 8) + "v"},
		{Key: strings.Repeat("\x00", mostKey+1)},
		{Key: "d", Value: strings.Repeat("\x00", mostValue+1)},
	}
}

// edgePairs: just right.
func edgePairs() []api.Pair {
	long, wide := strings.Repeat("d", mostKey), strings.Repeat("v", mostValue)
	return []api.Pair{
		{Key: "d"},
		{Key: long},
		{Key: "d", Value: wide},
		{Key: long, Value: wide},
		{Key: "\x00"},
		{Key: "\xff", Value: "\x00"},
		{Key: strings.Repeat("\x00", mostKey), Value: strings.Repeat("\x00", mostValue)},
		{Key: strings.Repeat("\xff", mostKey), Value: strings.Repeat("\xff", mostValue)},
		{Key: strings.Repeat("\u00e9", 8), Value: strings.Repeat("\u20ac", 8)},
	}
}

// draws gives numbers below n, one after the other, the same in each run.
func draws() func(n int) int {
	state := uint64(6)
	return func(n int) int {
		state = state*6364136223846793005 + 1442695040888963407
		return int(state>>33) % n
	}
}

// P6.1

func TestRightOfEachRowOfTheEdges(t *testing.T) {
	eachRow(func(l []api.Pair) {
		if !kv.Right(l) {
			t.Errorf("%q", l)
		}
	})
	if !kv.Right(nil) || !kv.Right([]api.Pair{}) || !kv.Right(make([]api.Pair, 0, 4)) {
		t.Error("none")
	}
}

func TestRightOfSoManyPairs(t *testing.T) {
	if api.MaxPairs != mostPairs || api.MaxKey != mostKey || api.MaxValue != mostValue {
		t.Fatal("limits")
	}
	for n := range 40 {
		if kv.Right(many(n)) != (n <= mostPairs) {
			t.Error(n)
		}
	}
	for _, n := range []int{256, 257, 1<<16 + 3} {
		var l []api.Pair
		for i := range n {
			l = append(l, api.Pair{Key: string([]byte{byte(i >> 16), byte(i >> 8), byte(i)})})
		}
		if kv.Right(l) || !kv.Right(l[:mostPairs]) || kv.Right(l[:mostPairs+1]) {
			t.Error(n)
		}
	}
}

func TestRightOfOnePair(t *testing.T) {
	for _, p := range edgePairs() {
		if !kv.Right([]api.Pair{p}) {
			t.Errorf("%.40q", p)
		}
	}
	for i, p := range wrongPairs() {
		if kv.Right([]api.Pair{p}) {
			t.Errorf("%d: %.40q", i, p)
		}
	}
	for c := range 256 {
		if !kv.Right([]api.Pair{{Key: string([]byte{byte(c)})}}) {
			t.Error(c)
		}
	}
	for k := range 40 {
		for v := range 40 {
			p := api.Pair{Key: strings.Repeat("k", k), Value: strings.Repeat("v", v)}
			if kv.Right([]api.Pair{p}) != (k >= 1 && k <= mostKey && v <= mostValue) {
				t.Errorf("key of %d, value of %d", k, v)
			}
		}
	}
}

// One wrong thing in a row that is right but for that, at each place.
func TestRightOfOneWrongPlace(t *testing.T) {
	for n := 1; n <= mostPairs; n++ {
		for i := range n {
			for what, turn := range []func(l []api.Pair){
				func(l []api.Pair) { l[i].Value += strings.Repeat("v", mostValue+1-len(l[i].Value)) },
				func(l []api.Pair) { l[i].Key += strings.Repeat("k", mostKey+1-len(l[i].Key)) },
				func(l []api.Pair) { l[i].Key = "" },
			} {
				l := many(n)
				turn(l)
				if kv.Right(l) {
					t.Errorf("%d of %d: %d", i, n, what)
				}
			}
			l := many(n)
			l[i].Value += strings.Repeat("v", mostValue-len(l[i].Value))
			l[i].Key += strings.Repeat("k", mostKey-len(l[i].Key))
			if !kv.Right(l) {
				t.Errorf("%d of %d: at the limits", i, n)
			}
		}
	}
}

func TestRightOfKeysThatDoNotRise(t *testing.T) {
	for n := 2; n <= mostPairs; n++ {
		for i := range n {
			for k := range i {
				l := many(n)
				l[i], l[k] = l[k], l[i]
				if kv.Right(l) {
					t.Errorf("%d and %d of %d turned", k, i, n)
				}
				l = many(n)
				l[i].Key = l[k].Key
				if kv.Right(l) {
					t.Errorf("%d of %d has the key of %d", i, n, k)
				}
			}
		}
	}
	for i, a := range edges {
		for k, b := range edges {
			if kv.Right([]api.Pair{{Key: a}, {Key: b, Value: "v"}}) != (i < k) {
				t.Errorf("%q, %q", a, b)
			}
		}
	}
	for a := range 256 {
		for b := range 256 {
			if kv.Right([]api.Pair{{Key: string([]byte{byte(a)})}, {Key: string([]byte{byte(b)})}}) != (a < b) {
				t.Errorf("%d, %d", a, b)
			}
		}
	}
}

// A row ends at its length: what stands behind is neither right nor wrong.
func TestRightReadsNoRoom(t *testing.T) {
	for n := range mostPairs {
		l := append(many(n), api.Pair{}, api.Pair{Key: "a"})
		if !kv.Right(l[:n]) || kv.Right(l[:n+1]) {
			t.Error(n)
		}
	}
	l := many(mostPairs + 2)
	if !kv.Right(l[:mostPairs]) || !kv.Right(l[2:]) {
		t.Error("more than may be, cut")
	}
}

// P6.2

func TestFirstAndGetOfEachRowOfTheEdges(t *testing.T) {
	keys := asked()
	eachRow(func(l []api.Pair) {
		for _, key := range keys {
			if got := kv.First(l, key); got != firstOf(l, key) {
				t.Errorf("First of %q, %.40q: %d", l, key, got)
			}
			value, ok := kv.Get(l, key)
			want, there := getOf(l, key)
			if value != want || ok != there {
				t.Errorf("Get of %q, %.40q: %q, %v", l, key, value, ok)
			}
		}
	})
}

func TestRangeOfEachRowOfTheEdges(t *testing.T) {
	keys := asked()
	eachRow(func(l []api.Pair) {
		for _, start := range keys {
			for _, end := range keys {
				if got := kv.Range(l, start, end); !slices.Equal(got, rangeOf(l, start, end)) {
					t.Errorf("%q from %.40q to %.40q: %q", l, start, end, got)
				}
			}
		}
	})
}

func TestRangesOfKnownRows(t *testing.T) {
	l := []api.Pair{{Key: "a", Value: "1"}, {Key: "b", Value: "2"}, {Key: "d", Value: "3"}, {Key: "f"}}
	for _, c := range []struct {
		start, end string
		from, to   int
	}{
		{"", "", 0, 0}, {"", "a", 0, 0}, {"", "a\x00", 0, 1}, {"a", "a", 0, 0}, {"a", "b", 0, 1}, {"a", "d", 0, 2}, {"a", "e", 0, 3},
		{"a\x00", "d", 1, 2}, {"b", "d", 1, 2}, {"c", "d", 2, 2}, {"c", "d\x00", 2, 3}, {"d", "f", 2, 3}, {"e", "f", 3, 3}, {"f", "g", 3, 4},
		{"f", "f", 3, 3}, {"f\x00", "z", 4, 4}, {"", "\xff", 0, 4}, {"f", "a", 0, 0}, {"d", "b", 0, 0}, {"z", "", 0, 0}, {"b", "a", 0, 0},
	} {
		if got := kv.Range(l, c.start, c.end); !slices.Equal(got, l[c.from:c.to]) {
			t.Errorf("from %q to %q: %q", c.start, c.end, got)
		}
	}
}

func TestAskingOfManyPairs(t *testing.T) {
	for n := range mostPairs + 1 {
		l := many(n)
		var keys []string
		for _, p := range many(mostPairs) {
			keys = append(keys, p.Key[:1], p.Key, p.Key+"\x00", p.Key+strings.Repeat("k", 40), p.Key[:1]+string([]byte{p.Key[1] - 1}))
		}
		for i, key := range keys {
			value, ok := kv.Get(l, key)
			if want, there := getOf(l, key); value != want || ok != there {
				t.Errorf("Get of %d, %q: %q, %v", n, key, value, ok)
			}
			if got := kv.First(l, key); got != firstOf(l, key) {
				t.Errorf("First of %d, %q: %d", n, key, got)
			}
			for _, end := range keys[i%7:] {
				if got := kv.Range(l, key, end); !slices.Equal(got, rangeOf(l, key, end)) {
					t.Fatalf("Range of %d, %q to %q: %q", n, key, end, got)
				}
			}
		}
	}
}

func TestAnEmptyValueIsThere(t *testing.T) {
	l := []api.Pair{{Key: "a"}, {Key: "c", Value: "v"}}
	if value, ok := kv.Get(l, "a"); value != "" || !ok {
		t.Error("empty")
	}
	if value, ok := kv.Get(l, "b"); value != "" || ok {
		t.Error("between")
	}
	if value, ok := kv.Get(nil, "a"); value != "" || ok || kv.First(nil, "a") != 0 || len(kv.Range(nil, "", "z")) != 0 {
		t.Error("no pairs")
	}
}

// What stands behind a row's length is no pair of it.
func TestAskingReadsNoRoom(t *testing.T) {
	whole := many(mostPairs)
	for n := range mostPairs {
		l, next := whole[:n], whole[n]
		if value, ok := kv.Get(l, next.Key); value != "" || ok || kv.First(l, "\xff") != n {
			t.Error(n)
		}
		if got := kv.Range(l, "", "\xff"); !slices.Equal(got, whole[:n]) {
			t.Errorf("%d: %q", n, got)
		}
		if got := kv.Del(l, next.Key); !slices.Equal(got, whole[:n]) {
			t.Errorf("%d: %q", n, got)
		}
	}
}

// P6.3

func TestSetAndDelOfEachRowOfTheEdges(t *testing.T) {
	keys := asked()
	eachRow(func(l []api.Pair) {
		for _, key := range keys {
			for _, value := range []string{"", "new", strings.Repeat("w", mostValue), strings.Repeat("w", mostValue+1)} {
				p := api.Pair{Key: key, Value: value}
				got, ok := kv.Set(l, p)
				want, good := setOf(l, p)
				if ok != good || !slices.Equal(got, want) || !kv.Right(got) {
					t.Errorf("Set of %q, %.40q: %q, %v", l, p, got, ok)
				}
			}
			if got := kv.Del(l, key); !slices.Equal(got, delOf(l, key)) {
				t.Errorf("Del of %q, %.40q: %q", l, key, got)
			}
		}
	})
}

func TestSetOfRowsThatAreNearlyFull(t *testing.T) {
	for n := range mostPairs + 1 {
		l := many(n)
		for i := range n {
			p := api.Pair{Key: l[i].Key, Value: "new"}
			want := many(n)
			want[i] = p
			if got, ok := kv.Set(l, p); !ok || !slices.Equal(got, want) {
				t.Errorf("%d of %d: %q, %v", i, n, got, ok)
			}
			if got := kv.Del(l, p.Key); !slices.Equal(got, slices.Delete(many(n), i, i+1)) {
				t.Errorf("%d of %d: %q", i, n, got)
			}
		}
		for i := range n + 1 {
			p := api.Pair{Key: "a"}
			if i > 0 {
				p.Key = l[i-1].Key + "\x00"
			}
			got, ok := kv.Set(l, p)
			want := slices.Insert(many(n), i, p)
			if n == mostPairs {
				want = l
			}
			if ok != (n < mostPairs) || !slices.Equal(got, want) {
				t.Errorf("ahead of %d of %d: %q, %v", i, n, got, ok)
			}
			if got := kv.Del(l, p.Key); !slices.Equal(got, l) {
				t.Errorf("ahead of %d of %d: %q", i, n, got)
			}
		}
	}
}

func TestSetOfEdgesOfPairs(t *testing.T) {
	for _, n := range []int{0, 1, 12, mostPairs - 1} {
		for _, p := range edgePairs() {
			got, ok := kv.Set(many(n), p)
			want, _ := setOf(many(n), p)
			if !ok || !slices.Equal(got, want) {
				t.Errorf("%d, %q: %q, %v", n, p, got, ok)
			}
		}
	}
}

func TestSetOfPairsThatMayNotBe(t *testing.T) {
	for _, n := range []int{0, 1, 12, mostPairs - 1, mostPairs} {
		for i, p := range wrongPairs() {
			if got, ok := kv.Set(many(n), p); ok || !slices.Equal(got, many(n)) {
				t.Errorf("%d, %d: %q, %v", n, i, got, ok)
			}
		}
		for _, q := range many(n) {
			p := api.Pair{Key: q.Key, Value: strings.Repeat("v", mostValue+1)}
			if got, ok := kv.Set(many(n), p); ok || !slices.Equal(got, many(n)) {
				t.Errorf("%d, %q: %q, %v", n, p, got, ok)
			}
		}
	}
}

// A key that may not be is in no row, and nothing goes.
func TestDelOfKeysThatMayNotBe(t *testing.T) {
	for _, n := range []int{0, 1, 12, mostPairs} {
		for i, p := range wrongPairs() {
			if got := kv.Del(many(n), p.Key); !slices.Equal(got, many(n)) {
				t.Errorf("%d, %d: %q", n, i, got)
			}
		}
	}
	if got := kv.Del(nil, "a"); len(got) != 0 {
		t.Error(got)
	}
	if got := kv.Del([]api.Pair{{Key: "a"}}, "a"); len(got) != 0 {
		t.Error(got)
	}
}

// Sets and dels one behind the other, as a store does them, against a map.
func TestManySetsAndDels(t *testing.T) {
	draw := draws()
	var l []api.Pair
	var olds, copies [][]api.Pair
	model := map[string]string{}
	for step := range 20000 {
		p := api.Pair{Key: "k" + strconv.Itoa(draw(45)), Value: strings.Repeat("v", draw(mostValue+2))}
		_, there := model[p.Key]
		good := len(p.Value) <= mostValue && (there || len(model) < mostPairs)
		if draw(5) < 3 {
			var ok bool
			if l, ok = kv.Set(l, p); ok != good {
				t.Fatalf("step %d: Set of %q: %v", step, p, ok)
			}
			if good {
				model[p.Key] = p.Value
			}
		} else {
			l = kv.Del(l, p.Key)
			delete(model, p.Key)
		}
		if !kv.Right(l) || len(l) != len(model) {
			t.Fatalf("step %d: %q", step, l)
		}
		for _, q := range l {
			if value, ok := model[q.Key]; !ok || value != q.Value {
				t.Fatalf("step %d: %q", step, q)
			}
		}
		if step%400 == 0 {
			olds, copies = append(olds, l), append(copies, slices.Clone(l))
		}
	}
	for i := range olds {
		if !slices.Equal(olds[i], copies[i]) {
			t.Errorf("row %d has changed since", i)
		}
	}
}

// P6.4

func TestLeaf(t *testing.T) {
	long, wide := strings.Repeat("k", mostKey), strings.Repeat("v", mostValue)
	for _, c := range []struct {
		p    api.Pair
		want string
	}{
		{api.Pair{Key: "ab", Value: "c"}, "\x02ab\x01c"},
		{api.Pair{Key: "a"}, "\x01a\x00"},
		{api.Pair{Key: "\x00", Value: "\xff\x80"}, "\x01\x00\x02\xff\x80"},
		{api.Pair{Key: long, Value: wide}, "\x10" + long + "\x18" + wide},
		{api.Pair{Key: "\u00e9", Value: "\u20ac"}, "\x02\xc3\xa9\x03\xe2\x82\xac"},
		{api.Pair{}, "\x00\x00"},
		{api.Pair{Value: "v"}, "\x00\x01v"},
		{api.Pair{Key: strings.Repeat("k", 300), Value: wide}, "\xac\x02" + strings.Repeat("k", 300) + "\x18" + wide},
	} {
		if got := kv.Leaf(c.p); string(got) != c.want {
			t.Errorf("%.40q: %.60q", c.p, got)
		}
	}
	for _, p := range append(append(wrongPairs(), edgePairs()...), many(mostPairs)...) {
		if !bytes.Equal(kv.Leaf(p), vint.Text(p.Key, p.Value)) {
			t.Errorf("%.40q", p)
		}
	}
}

func TestUnlikePairsHaveUnlikeLeaves(t *testing.T) {
	texts := []string{"", "\x00", "\x01", "\x02", "a", "aa", "\x01a", "a\x01", "a\x00", "\x00a", "\x01\x01", "a\x01a", "\x01a\x01a"}
	seen := map[string]api.Pair{}
	for _, key := range texts {
		for _, value := range texts {
			p := api.Pair{Key: key, Value: value}
			leaf := string(kv.Leaf(p))
			if q, ok := seen[leaf]; ok {
				t.Errorf("%q and %q: %q", p, q, leaf)
			}
			seen[leaf] = p
		}
	}
}

// R1, R2, R5: every call ends; what is handed in stays as it is, and an answer is its caller's.

// Rows that aren't right: the calls end, whatever they answer.
func TestCallsEndForAnyRow(t *testing.T) {
	same := slices.Repeat([]api.Pair{{Key: "a"}}, 50)
	falls := many(100)
	slices.Reverse(falls)
	mixed := append(many(40), wrongPairs()...)
	draw := draws()
	for i := range mixed {
		k := draw(i + 1)
		mixed[i], mixed[k] = mixed[k], mixed[i]
	}
	for _, l := range [][]api.Pair{same, falls, mixed, make([]api.Pair, 70), make([]api.Pair, 1), many(60), wrongPairs()} {
		for _, key := range append(asked(), "bb", "bd", "db", "zz") {
			kv.First(l, key)
			kv.Get(l, key)
			kv.Set(l, api.Pair{Key: key})
			kv.Del(l, key)
			for _, end := range asked() {
				kv.Range(l, key, end)
			}
		}
		if kv.Right(l) != rightOf(l) {
			t.Errorf("%.80q", l)
		}
	}
}

func TestCallsLeaveWhatTheyAreGiven(t *testing.T) {
	for n := range mostPairs + 1 {
		whole := many(n)
		for range 6 {
			whole = append(whole, api.Pair{Key: "behind", Value: "the row"})
		}
		before, l := slices.Clone(whole), whole[:n]
		for _, key := range []string{"", "a", "bb", "bc", "ch", "ef", "zz", strings.Repeat("k", 17)} {
			kv.Right(l)
			kv.First(l, key)
			kv.Get(l, key)
			kv.Set(l, api.Pair{Key: key, Value: "new"})
			kv.Set(l, api.Pair{Key: key, Value: strings.Repeat("v", 25)})
			kv.Del(l, key)
			kv.Range(l, key, "zz")
			kv.Range(l, "b", key)
			kv.Range(l, "zz", key)
			if !slices.Equal(whole, before) {
				t.Fatalf("%d, %q: changed", n, key)
			}
		}
	}
}

// spoil overwrites the answer, and the room behind it.
func spoil(l []api.Pair) {
	l = l[:cap(l)]
	for i := range l {
		l[i] = api.Pair{Key: "spoilt"}
	}
}

func TestAnswersAreNewMemory(t *testing.T) {
	for n := range mostPairs + 1 {
		whole := append(many(n), api.Pair{Key: "behind"}, api.Pair{Key: "behind"})
		before, l := slices.Clone(whole), whole[:n]
		for i := range n {
			key, end := l[i].Key, l[n-1].Key
			answers := func() [][]api.Pair {
				set, _ := kv.Set(l, api.Pair{Key: key, Value: "new"})
				return [][]api.Pair{set, kv.Del(l, key), kv.Range(l, key, end), kv.Range(l, "", "\xff")}
			}
			first, second := answers(), answers()
			wants := make([][]api.Pair, len(second))
			for k := range second {
				wants[k] = slices.Clone(second[k])
				spoil(first[k])
			}
			for k := range second {
				if !slices.Equal(second[k], wants[k]) || !slices.Equal(whole, before) {
					t.Fatalf("%d of %d, answer %d: shared", i, n, k)
				}
			}
			l[i].Value = "later"
			for k := range second {
				if !slices.Equal(second[k], wants[k]) {
					t.Fatalf("%d of %d, answer %d: what was handed in is kept", i, n, k)
				}
			}
			l[i] = before[i]
		}
		if n < mostPairs {
			set, ok := kv.Set(l, api.Pair{Key: "a"})
			spoil(set)
			if !ok || !slices.Equal(whole, before) {
				t.Fatalf("%d and one: shared", n)
			}
		}
	}
}

// Rows that are as they were may be shared, but not their room.
func TestWhatIsAddedToARowThatIsAsItWas(t *testing.T) {
	whole := append(many(mostPairs), api.Pair{Key: "behind"})
	for n := range mostPairs + 1 {
		l, before := whole[:n], slices.Clone(whole)
		set, ok := kv.Set(l, api.Pair{})
		_ = append(set, api.Pair{Key: "more"})
		_ = append(kv.Del(l, "none"), api.Pair{Key: "more"})
		_ = append(kv.Range(l, "", "\xff"), api.Pair{Key: "more"})
		_ = append(kv.Range(l, "\xff", ""), api.Pair{Key: "more"})
		if ok || !slices.Equal(whole, before) {
			t.Fatal(n)
		}
	}
}

func TestLeavesAreNewMemory(t *testing.T) {
	p := api.Pair{Key: "ab", Value: "c"}
	first, second := kv.Leaf(p), kv.Leaf(p)
	clear(first[:cap(first)])
	if string(second) != "\x02ab\x01c" || p != (api.Pair{Key: "ab", Value: "c"}) {
		t.Errorf("%q, %q", second, p)
	}
}

// FuzzRows sets and dels what the text says, and asks the row each time.
func FuzzRows(f *testing.F) {
	f.Add("a=1,c=2,b=3,-a,b=", "a", "c")
	f.Add(",=,-,aaaaaaaaaaaaaaaaa=1,\x80=2,\xff=", "", "\xff")
	f.Add("a=aaaaaaaaaaaaaaaaaaaaaaaaa,a\x00=", "b", "a")
	f.Fuzz(func(t *testing.T, text, start, end string) {
		var l, model []api.Pair
		for _, part := range strings.Split(text, ",") {
			if key, del := strings.CutPrefix(part, "-"); del {
				l, model = kv.Del(l, key), delOf(model, key)
			} else {
				key, value, _ := strings.Cut(part, "=")
				got, ok := kv.Set(l, api.Pair{Key: key, Value: value})
				want, good := setOf(model, api.Pair{Key: key, Value: value})
				if ok != good {
					t.Fatalf("%q: %v", part, ok)
				}
				l, model = got, want
			}
			if !slices.Equal(l, model) || !kv.Right(l) || !slices.Equal(kv.Range(l, start, end), rangeOf(l, start, end)) || kv.First(l, start) != firstOf(l, start) {
				t.Fatalf("%q: %q", part, l)
			}
		}
	})
}
