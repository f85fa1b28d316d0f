package vint_test

import (
	"bytes"
	"math"
	"slices"
	"strings"
	"testing"

	"affiant/api"
	"affiant/vint"
)

// forms: numbers and their bytes, at the edges of each length.
var forms = []struct {
	n int
	b []byte
}{
	{0, []byte{0}},
	{1, []byte{1}},
	{127, []byte{127}},
	{128, []byte{128, 1}},
	{129, []byte{129, 1}},
	{255, []byte{255, 1}},
	{300, []byte{172, 2}},
	{1<<14 - 1, []byte{255, 127}},
	{1 << 14, []byte{128, 128, 1}},
	{1<<21 - 1, []byte{255, 255, 127}},
	{1 << 21, []byte{128, 128, 128, 1}},
	{1<<28 - 1, []byte{255, 255, 255, 127}},
	{1 << 28, []byte{128, 128, 128, 128, 1}},
	{1<<35 - 1, []byte{255, 255, 255, 255, 127}},
	{1 << 35, []byte{128, 128, 128, 128, 128, 1}},
	{api.MaxNumber - 1, []byte{254, 255, 255, 255, 255, 31}},
	{api.MaxNumber, []byte{255, 255, 255, 255, 255, 31}},
}

// wrongNumbers: bytes at whose beginning no number stands, even with more behind them.
var wrongNumbers = [][]byte{
	{128, 0},
	{129, 0},
	{255, 0},
	{128, 128, 0},
	{172, 130, 0},
	{255, 255, 255, 255, 255, 128, 0},
	{128, 128, 128, 128, 128, 0},
	{128, 128, 128, 128, 128, 32},
	{255, 255, 255, 255, 255, 32},
	{255, 255, 255, 255, 255, 127},
	{128, 128, 128, 128, 128, 128, 1},
	{255, 255, 255, 255, 255, 159, 1},
	{255, 255, 255, 255, 255, 255, 255, 255, 255, 1},
	bytes.Repeat([]byte{128}, 9),
	append(bytes.Repeat([]byte{128}, 10), 1),
	append(bytes.Repeat([]byte{128}, 300), 1),
}

func hashOf(first byte) api.Hash {
	var h api.Hash
	for i := range h {
		h[i] = first + byte(i)
	}
	return h
}

// isOver tells whether r is not Good any more, and goes on so, whatever is asked.
func isOver(r *vint.Reader) bool {
	for range 2 {
		if r.Good() || r.Done() || r.Number() != 0 || r.Text() != "" || r.Hash() != (api.Hash{}) {
			return false
		}
	}
	return !r.Good() && !r.Done()
}

// P1.1

func TestPutOfOne(t *testing.T) {
	for _, f := range forms {
		if got := vint.Put(f.n); !bytes.Equal(got, f.b) {
			t.Errorf("Put(%d): %v, not %v", f.n, got, f.b)
		}
	}
}

func TestPutOfNumbersBeyondTheLimits(t *testing.T) {
	for _, n := range []int{-1, -127, -128, -300, math.MinInt32, math.MinInt, api.MaxNumber + 1, api.MaxNumber + 2, 1 << 41, 1 << 42, math.MaxInt - 1, math.MaxInt} {
		if got := vint.Put(n); len(got) != 0 {
			t.Errorf("Put(%d): %v", n, got)
		}
		if got := vint.Put(7, n, 300); !bytes.Equal(got, []byte{7, 172, 2}) {
			t.Errorf("Put(7, %d, 300): %v", n, got)
		}
	}
}

func TestPutOfMany(t *testing.T) {
	var ns []int
	var want []byte
	for _, f := range forms {
		ns = append(ns, f.n)
		want = append(want, f.b...)
	}
	if got := vint.Put(ns...); !bytes.Equal(got, want) {
		t.Errorf("%v, not %v", got, want)
	}
	if len(vint.Put()) != 0 || len(vint.Put([]int{}...)) != 0 {
		t.Error("bytes of no numbers")
	}
}

// P1.2

func TestText(t *testing.T) {
	long := strings.Repeat("y", 300)
	for _, c := range []struct {
		ss   []string
		want []byte
	}{
		{nil, nil},
		{[]string{}, nil},
		{[]string{""}, []byte{0}},
		{[]string{"", "", ""}, []byte{0, 0, 0}},
		{[]string{"ab"}, []byte{2, 97, 98}},
		{[]string{"ab", "", "c"}, []byte{2, 97, 98, 0, 1, 99}},
		{[]string{"\x00\xff\x80"}, []byte{3, 0, 255, 128}},
		{[]string{"\u00e9"}, []byte{2, 0xc3, 0xa9}},
		{[]string{long[:127]}, append([]byte{127}, long[:127]...)},
		{[]string{long[:128]}, append([]byte{128, 1}, long[:128]...)},
		{[]string{long}, append([]byte{172, 2}, long...)},
	} {
		if got := vint.Text(c.ss...); !bytes.Equal(got, c.want) {
			t.Errorf("Text(%q...): %v, not %v", c.ss, got, c.want)
		}
	}
}

func TestHash(t *testing.T) {
	a, b := hashOf(1), hashOf(200)
	if got := vint.Hash(a, api.Hash{}, b); !bytes.Equal(got, slices.Concat(a[:], make([]byte, 32), b[:])) {
		t.Error(got)
	}
	if len(vint.Hash()) != 0 || len(vint.Hash([]api.Hash{}...)) != 0 {
		t.Error("bytes of no hashes")
	}
}

// P1.3

func TestReadNumber(t *testing.T) {
	for _, f := range forms {
		r := vint.Read(slices.Concat(f.b, []byte{5}))
		if got := r.Number(); got != f.n || !r.Good() || r.Done() {
			t.Errorf("%v: %d", f.b, got)
		}
		if got := r.Number(); got != 5 || !r.Good() || !r.Done() {
			t.Errorf("behind %v: %d", f.b, got)
		}
	}
}

func TestReadNumberCutShort(t *testing.T) {
	for _, f := range forms {
		for k := range f.b {
			// The rest stands in the spare room, which isn't read.
			r := vint.Read(f.b[:k])
			if got := r.Number(); got != 0 || !isOver(r) {
				t.Errorf("%v: %d", f.b[:k], got)
			}
		}
	}
}

func TestReadWrongNumber(t *testing.T) {
	for _, b := range wrongNumbers {
		for _, b := range [][]byte{b, append(slices.Clone(b), 1, 97, 5)} {
			r := vint.Read(b)
			if got := r.Number(); got != 0 || !isOver(r) {
				t.Errorf("Number of %v: %d", b, got)
			}
			r = vint.Read(b)
			if got := r.Text(); got != "" || !isOver(r) {
				t.Errorf("Text of %v: %q", b, got)
			}
		}
	}
}

func TestReadText(t *testing.T) {
	for _, s := range []string{"", "a", "ab", "\x00", "\xff\x80", strings.Repeat("z", 127), strings.Repeat("z", 128), strings.Repeat("z", 20000)} {
		b := vint.Text(s)
		r := vint.Read(append(slices.Clone(b), 7))
		if r.Text() != s || !r.Good() || r.Done() || r.Number() != 7 || !r.Done() {
			t.Errorf("a text of %d bytes", len(s))
		}
		for k := range min(len(b), 200) {
			if r := vint.Read(b[:k]); r.Text() != "" || !isOver(r) {
				t.Errorf("%d of a text's %d bytes", k, len(b))
			}
		}
		if r := vint.Read(b[:len(b)-1]); r.Text() != "" || !isOver(r) {
			t.Errorf("all but one of a text's %d bytes", len(b))
		}
	}
}

func TestReadTextWhoseLengthIsMoreThanThereIs(t *testing.T) {
	for _, n := range []int{4, 127, 128, 1 << 31, 1 << 32, api.MaxNumber} {
		r := vint.Read(append(vint.Put(n), "abc"...))
		if r.Text() != "" || !isOver(r) {
			t.Error(n)
		}
	}
}

func TestReadHash(t *testing.T) {
	h := hashOf(9)
	r := vint.Read(append(h[:], 1))
	if r.Hash() != h || !r.Good() || r.Done() || r.Number() != 1 || !r.Done() {
		t.Error("whole")
	}
	for k := range h {
		if r := vint.Read(h[:k]); r.Hash() != (api.Hash{}) || !isOver(r) {
			t.Error(k)
		}
	}
}

func TestReadNothing(t *testing.T) {
	for _, b := range [][]byte{nil, {}, make([]byte, 0, 40)} {
		r := vint.Read(b)
		if !r.Good() || !r.Done() || !r.Good() {
			t.Error("nothing asked of nothing")
		}
		if r := vint.Read(b); r.Number() != 0 || !isOver(r) {
			t.Error("a number of nothing")
		}
		if r := vint.Read(b); r.Text() != "" || !isOver(r) {
			t.Error("a text of nothing")
		}
		if r := vint.Read(b); r.Hash() != (api.Hash{}) || !isOver(r) {
			t.Error("a hash of nothing")
		}
	}
}

func TestGoodAndDoneAskNothing(t *testing.T) {
	r := vint.Read([]byte{3, 1, 97})
	for range 3 {
		if !r.Good() || r.Done() {
			t.Error("ahead")
		}
	}
	if r.Number() != 3 || r.Text() != "a" {
		t.Error("read")
	}
	for range 3 {
		if !r.Good() || !r.Done() {
			t.Error("behind")
		}
	}
	if r.Number() != 0 || !isOver(r) {
		t.Error("beyond the end")
	}
}

func TestWhatWasReadAheadOfAFault(t *testing.T) {
	h := hashOf(3)
	r := vint.Read(slices.Concat(vint.Put(300), vint.Text("ab"), vint.Hash(h), []byte{128, 0}, vint.Text("more"), make([]byte, 32)))
	if r.Number() != 300 || r.Text() != "ab" || r.Hash() != h || !r.Good() || r.Done() {
		t.Error("ahead")
	}
	if r.Number() != 0 || !isOver(r) {
		t.Error("behind")
	}
}

// P1.4

func TestBackAndForth(t *testing.T) {
	var b []byte
	var ns []int
	for bits := range 41 {
		for d := -2; d <= 2; d++ {
			if n := 1<<bits + d; n >= 0 && n <= api.MaxNumber {
				ns = append(ns, n)
			}
		}
	}
	h := hashOf(77)
	for i, n := range ns {
		b = slices.Concat(b, vint.Put(n), vint.Text(strings.Repeat("k", i)), vint.Hash(h))
	}
	r := vint.Read(b)
	for i, n := range ns {
		if r.Done() || r.Number() != n || r.Text() != strings.Repeat("k", i) || r.Hash() != h {
			t.Fatal(i, n)
		}
	}
	if !r.Done() {
		t.Error("something is left")
	}
}

// numbersOf reads numbers until nothing is left.
func numbersOf(b []byte) ([]int, bool) {
	var ns []int
	r := vint.Read(b)
	for r.Good() && !r.Done() {
		ns = append(ns, r.Number())
	}
	return ns, r.Good()
}

func TestBytesOfARowOfNumbersAreItsOnlyOnes(t *testing.T) {
	bs := []byte{0, 1, 31, 32, 127, 128, 129, 159, 160, 255}
	rows := [][]byte{nil}
	for range 5 {
		var longer [][]byte
		for _, row := range rows {
			if ns, ok := numbersOf(row); ok && !bytes.Equal(vint.Put(ns...), row) {
				t.Fatalf("%v is read as %v", row, ns)
			}
			for _, c := range bs {
				longer = append(longer, append(slices.Clone(row), c))
			}
		}
		rows = longer
	}
	for _, end := range bs {
		for _, last := range bs {
			row := []byte{128, 255, 128, 128, end, last}
			if ns, ok := numbersOf(row); ok && !bytes.Equal(vint.Put(ns...), row) {
				t.Fatalf("%v is read as %v", row, ns)
			}
		}
	}
}

// textsOf reads texts until nothing is left.
func textsOf(b []byte) ([]string, bool) {
	var ss []string
	r := vint.Read(b)
	for r.Good() && !r.Done() {
		ss = append(ss, r.Text())
	}
	return ss, r.Good()
}

func TestBytesOfARowOfTextsAreItsOnlyOnes(t *testing.T) {
	bs := []byte{0, 1, 2, 3, 127, 128, 129, 255}
	rows := [][]byte{nil}
	for range 5 {
		var longer [][]byte
		for _, row := range rows {
			if ss, ok := textsOf(row); ok && !bytes.Equal(vint.Text(ss...), row) {
				t.Fatalf("%v is read as %q", row, ss)
			}
			for _, c := range bs {
				longer = append(longer, append(slices.Clone(row), c))
			}
		}
		rows = longer
	}
}

func TestUnlikeRowsHaveUnlikeBytes(t *testing.T) {
	ns := []int{0, 1, 127, 128, 129, 255, 256, 16383, 16384, api.MaxNumber}
	ss := []string{"", "\x00", "a", "aa", "\x01a", "\x01", "\x01\x01", "\x00\x00"}
	numbers, texts := map[string]int{}, map[string]int{}
	var rows int
	for i := range len(ns) * len(ns) * len(ns) {
		numbers[string(vint.Put(ns[i%10], ns[i/10%10], ns[i/100]))]++
		rows++
	}
	for i := range len(ns) * len(ns) {
		numbers[string(vint.Put(ns[i%10], ns[i/10]))]++
		rows++
	}
	if len(numbers) != rows {
		t.Errorf("%d rows of numbers, %d rows of bytes", rows, len(numbers))
	}
	rows = 0
	for i := range 8 * 8 * 8 {
		texts[string(vint.Text(ss[i%8], ss[i/8%8], ss[i/64]))]++
		rows++
	}
	for i := range 8 * 8 {
		texts[string(vint.Text(ss[i%8], ss[i/8]))]++
		rows++
	}
	if len(texts) != rows {
		t.Errorf("%d rows of texts, %d rows of bytes", rows, len(texts))
	}
}

// R2, R5

func TestAReaderKeepsNothingOfWhatItIsGiven(t *testing.T) {
	whole := slices.Concat(vint.Put(300), vint.Text("ab"), vint.Hash(hashOf(1)))
	b := append(slices.Clone(whole), 9, 9, 9)
	r := vint.Read(b[:len(whole)])
	if r.Number() != 300 {
		t.Error("number")
	}
	clear(b)
	s := r.Text()
	if h := r.Hash(); s != "ab" || h != hashOf(1) || !r.Done() {
		t.Error("what was handed in was read later")
	}
	copy(b, whole)
	copy(b[len(whole):], []byte{9, 9, 9})
	r = vint.Read(b[:len(whole)])
	r.Number()
	r.Text()
	r.Hash()
	r.Hash()
	if !bytes.Equal(b, slices.Concat(whole, []byte{9, 9, 9})) {
		t.Error("what was handed in was changed")
	}
}

func TestPutChangesNothing(t *testing.T) {
	ns, ss, hs := []int{-1, 300, api.MaxNumber + 1, 8}, []string{"a", "", "b"}, []api.Hash{hashOf(1), hashOf(2)}
	n, s, h := slices.Clone(ns), slices.Clone(ss), slices.Clone(hs)
	a, b, c := vint.Put(ns[:2]...), vint.Text(ss[:2]...), vint.Hash(hs[:1]...)
	clear(a[:cap(a)])
	clear(b[:cap(b)])
	clear(c[:cap(c)])
	if !slices.Equal(ns, n) || !slices.Equal(ss, s) || !slices.Equal(hs, h) {
		t.Error("changed")
	}
	if !bytes.Equal(vint.Put(ns[:2]...), []byte{172, 2}) || !bytes.Equal(vint.Text(ss[:2]...), []byte{1, 97, 0}) || !bytes.Equal(vint.Hash(hs[:1]...), h[0][:]) {
		t.Error("kept")
	}
}

func TestTwoReadersAreTwo(t *testing.T) {
	b := []byte{1, 2}
	r, s := vint.Read(b), vint.Read(b)
	if r.Number() != 1 || s.Number() != 1 || r.Number() != 2 || r.Number() != 0 || r.Good() || !s.Good() || s.Number() != 2 || !s.Done() {
		t.Error("one reader's reading was seen by the other")
	}
}

func FuzzReader(f *testing.F) {
	f.Add([]byte{128, 0}, []byte{0, 1, 2})
	f.Add([]byte{2, 97, 98}, []byte{1})
	f.Fuzz(func(t *testing.T, b, asks []byte) {
		r := vint.Read(b)
		var back []byte
		for _, a := range asks {
			var part []byte
			switch a % 3 {
			case 0:
				part = vint.Put(r.Number())
			case 1:
				part = vint.Text(r.Text())
			default:
				part = vint.Hash(r.Hash())
			}
			if !r.Good() {
				if !isOver(r) {
					t.Fatal("Good again")
				}
				return
			}
			back = append(back, part...)
		}
		if !bytes.HasPrefix(b, back) || r.Done() != (len(b) == len(back)) {
			t.Fatalf("%v was read as %v", b, back)
		}
	})
}
