package sha_test

import (
	"bytes"
	"crypto/sha256"
	"encoding/hex"
	"math"
	"slices"
	"strings"
	"testing"

	"affiant/api"
	"affiant/sha"
)

// sums: texts and their sums, as they are published for FIPS 180-4.
var sums = []struct{ text, sum string }{
	{"", "e3b0c44298fc1c149afbf4c8996fb92427ae41e4649b934ca495991b7852b855"},
	{"abc", "ba7816bf8f01cfea414140de5dae2223b00361a396177a9cb410ff61f20015ad"},
	{"abcdbcdecdefdefgefghfghighijhijkijkljklmklmnlmnomnopnopq",
		"248d6a61d20638b8e5c026930c3e6039a33ce45964ff2167f6ecedd419db06c1"},
	{"abcdefghbcdefghicdefghijdefghijkefghijklfghijklmghijklmnhijklmnoijklmnopjklmnopqklmnopqrlmnopqrsmnopqrstnopqrstu",
		"cf5b16a778af8380036ce59e7b0492370b249b11e8f07a51afac45037afee9d1"},
	{strings.Repeat("a", 1000000), "cdc76e5c9914fb9281a1c7e284d73e67f1809a48a497200e046d39ccc7112cd0"},
	{"\xbd", "68325720aabd7c82f30f554b313d0570c95accbb7dc4b5aae11204c08ffe732b"},
	{"\xc9\x8c\x8e\x55", "7abc22c0ae5af26ce93dbb94433a0e0b2e119d014f8e7f65bd56c61ccccd9504"},
	{strings.Repeat("\x00", 55), "02779466cdec163811d078815c633f21901413081449002f24aa3e80f0b88ef7"},
	{strings.Repeat("\x00", 56), "d4817aa5497628e7c77e6b606107042bbba3130888c5f47a375e6179be789fbb"},
	{strings.Repeat("\x00", 57), "65a16cb7861335d5ace3c60718b5052e44660726da4cd13bb745381b235a1785"},
	{strings.Repeat("\x00", 64), "f5a5fd42d16a20302798ef6ed309979b43003d2320d9f0e8ea9831a92759fb4b"},
}

// mixed is n bytes of many values, in a row that does not go round by blocks.
func mixed(n int) []byte {
	b := make([]byte, n)
	x := uint32(n) + 1
	for i := range b {
		x = x*1664525 + 1013904223
		b[i] = byte(x >> 24)
	}
	return b
}

// within is b with room behind it, and that room whole.
func within(b []byte) (short, whole []byte) {
	whole = append(bytes.Clone(b), bytes.Repeat([]byte{0xa5}, 200)...)
	return whole[:len(b)], whole
}

func isRoomLeft(whole []byte, used int) bool {
	return bytes.Equal(whole[used:], bytes.Repeat([]byte{0xa5}, 200))
}

// P2.1

func TestSumOfPublishedTexts(t *testing.T) {
	for _, s := range sums {
		h := sha.Sum([]byte(s.text))
		if got := hex.EncodeToString(h[:]); got != s.sum {
			t.Errorf("sum of %d bytes: %s, want %s", len(s.text), got, s.sum)
		}
	}
}

func TestSumOfNothing(t *testing.T) {
	want := sha.Sum([]byte{})
	if sha.Sum(nil) != want || sha.Sum(mixed(9)[:0]) != want || want == (api.Hash{}) {
		t.Error("nothing has not one sum")
	}
}

func TestSumOfEachLength(t *testing.T) {
	for n := range 5*64 + 2 {
		for _, b := range [][]byte{mixed(n), bytes.Repeat([]byte{0}, n), bytes.Repeat([]byte{255}, n)} {
			if sha.Sum(b) != sha256.Sum256(b) {
				t.Fatalf("%d bytes from %v on", n, b[:min(n, 3)])
			}
		}
	}
}

func TestSumOfEachByte(t *testing.T) {
	for c := range 256 {
		b := []byte{byte(c)}
		if sha.Sum(b) != sha256.Sum256(b) {
			t.Error(c)
		}
	}
}

// From 2^13, 2^21 and 2^29 bytes on, the length in bits has one more byte that isn't 0.
func TestSumOfLongTexts(t *testing.T) {
	for _, n := range []int{1<<13 - 1, 1 << 13, 1<<13 + 1, 1<<16 - 9, 1<<16 + 55, 1<<21 - 1, 1 << 21, 1<<21 + 56} {
		b := mixed(n)
		if sha.Sum(b) != sha256.Sum256(b) {
			t.Errorf("%d bytes", n)
		}
	}
}

func TestSumOfLengthBeyondAWord(t *testing.T) {
	if testing.Short() {
		t.Skip("long")
	}
	b := make([]byte, 1<<29+55)
	if sha.Sum(b) != sha256.Sum256(b) {
		t.Errorf("%d bytes", len(b))
	}
}

func TestSumHangsOnEachBit(t *testing.T) {
	for _, n := range []int{1, 55, 56, 63, 64, 65, 130} {
		b := mixed(n)
		seen := map[api.Hash]int{sha.Sum(b): -1}
		for i := range 8 * n {
			b[i/8] ^= 1 << (i % 8)
			h := sha.Sum(b)
			if at, ok := seen[h]; ok {
				t.Fatalf("%d bytes: bit %d has the sum of %d", n, i, at)
			}
			seen[h] = i
			b[i/8] ^= 1 << (i % 8)
		}
	}
}

// What fills the last block may be put in the bytes themselves: the sum is another one.
func TestSumOfFilledText(t *testing.T) {
	for _, n := range []int{0, 1, 55, 56, 63, 64} {
		b := mixed(n)
		filled := append(bytes.Clone(b), 0x80)
		for len(filled)%64 != 56 {
			filled = append(filled, 0)
		}
		filled = append(filled, 0, 0, 0, 0, 0, 0, byte(8*n>>8), byte(8*n))
		if sha.Sum(b) == sha.Sum(filled) || sha.Sum(b) == sha.Sum(append(bytes.Clone(b), 0)) {
			t.Errorf("%d bytes, and filled: one sum", n)
		}
	}
}

func TestSumLeavesItsBytes(t *testing.T) {
	for n := range 200 {
		b, whole := within(mixed(n))
		h := sha.Sum(b)
		if !bytes.Equal(b, mixed(n)) || !isRoomLeft(whole, n) {
			t.Fatalf("%d bytes: changed", n)
		}
		whole[n] = 7
		if h != sha256.Sum256(b) || sha.Sum(b) != h {
			t.Fatalf("%d bytes: hangs on the room behind, or on calls before", n)
		}
	}
}

// P2.2

func TestTagged(t *testing.T) {
	a, b, c := mixed(3), mixed(70), mixed(200)
	cases := []struct {
		tag   byte
		parts [][]byte
	}{
		{0, nil},
		{'x', [][]byte{}},
		{255, [][]byte{nil}},
		{1, [][]byte{{}, nil, {}}},
		{'p', [][]byte{a}},
		{'p', [][]byte{a, b}},
		{'p', [][]byte{b, a}},
		{'p', [][]byte{nil, a, nil, b, {}, c, nil}},
		{128, [][]byte{a, a, a}},
		{7, [][]byte{mixed(54)}},
		{7, [][]byte{mixed(55)}},
		{7, [][]byte{mixed(62)}},
		{7, [][]byte{mixed(63)}},
		{7, [][]byte{mixed(64), mixed(64)}},
	}
	for i, c := range cases {
		want := sha256.Sum256(slices.Concat([]byte{c.tag}, slices.Concat(c.parts...)))
		if sha.Tagged(c.tag, c.parts...) != want {
			t.Errorf("case %d", i)
		}
	}
}

func TestTaggedAlone(t *testing.T) {
	for tag := range 256 {
		if sha.Tagged(byte(tag)) != sha.Sum([]byte{byte(tag)}) {
			t.Error(tag)
		}
	}
}

// The parts' order tells, their borders don't: Tagged is of one row of bytes.
func TestTaggedIsOfOneRow(t *testing.T) {
	whole := mixed(150)
	want := sha.Tagged('r', whole)
	if want != sha.Sum(append([]byte{'r'}, whole...)) {
		t.Fatal("not the sum of the tag and the row")
	}
	for i := range whole {
		if sha.Tagged('r', whole[:i], whole[i:]) != want {
			t.Fatalf("cut at %d", i)
		}
		if i > 0 && sha.Tagged('r', whole[i:], whole[:i]) == want {
			t.Fatalf("turned round at %d", i)
		}
	}
}

func TestTaggedHangsOnItsTag(t *testing.T) {
	seen := map[api.Hash]int{sha.Sum([]byte("same")): -1}
	for tag := range 256 {
		h := sha.Tagged(byte(tag), []byte("same"))
		if at, ok := seen[h]; ok {
			t.Fatalf("tag %d has the sum of %d", tag, at)
		}
		seen[h] = tag
	}
}

func TestTaggedLeavesItsParts(t *testing.T) {
	for n := range 130 {
		first, wholeFirst := within(mixed(n))
		second, wholeSecond := within(mixed(n / 2))
		parts := make([][]byte, 3, 5)
		parts[0], parts[2] = first, second
		spare := parts[:5]
		spare[3], spare[4] = []byte("beyond"), []byte("its end")
		h := sha.Tagged('t', parts...)
		if !bytes.Equal(first, mixed(n)) || !bytes.Equal(second, mixed(n/2)) || parts[1] != nil {
			t.Fatalf("%d bytes: changed", n)
		}
		if !isRoomLeft(wholeFirst, n) || !isRoomLeft(wholeSecond, n/2) || string(spare[3]) != "beyond" || string(spare[4]) != "its end" {
			t.Fatalf("%d bytes: the room behind is changed", n)
		}
		if h != sha256.Sum256(slices.Concat([]byte("t"), first, second)) {
			t.Fatalf("%d bytes: not the sum of the parts", n)
		}
	}
}

// P2.3

func TestBlocks(t *testing.T) {
	for _, c := range []struct{ n, want int }{
		{0, 1}, {1, 1}, {54, 1}, {55, 1},
		{56, 2}, {57, 2}, {63, 2}, {64, 2}, {65, 2}, {118, 2}, {119, 2},
		{120, 3}, {127, 3}, {128, 3}, {183, 3}, {184, 4},
		{1000, 16}, {1<<31 - 1, 1<<25 + 1}, {1 << 31, 1<<25 + 1},
		{math.MaxInt - 8, 1 << 57}, {math.MaxInt - 7, 1<<57 + 1}, {math.MaxInt, 1<<57 + 1},
	} {
		if got := sha.Blocks(c.n); got != c.want {
			t.Errorf("Blocks(%d): %d, want %d", c.n, got, c.want)
		}
	}
}

// Blocks is the least count that holds the bytes, one byte that ends them, and eight of their length.
func TestBlocksIsLeast(t *testing.T) {
	for n := range 5000 {
		got := sha.Blocks(n)
		if got*64 < n+9 || (got-1)*64 >= n+9 {
			t.Fatalf("Blocks(%d): %d", n, got)
		}
	}
}

func TestBlocksOfNoLength(t *testing.T) {
	for _, n := range []int{-1, -8, -9, -64, -65, math.MinInt + 1, math.MinInt} {
		if got := sha.Blocks(n); got != 0 {
			t.Errorf("Blocks(%d): %d", n, got)
		}
	}
}

func FuzzSum(f *testing.F) {
	for _, s := range sums[:4] {
		f.Add(byte(1), []byte(s.text), 2)
	}
	f.Fuzz(func(t *testing.T, tag byte, b []byte, cut int) {
		if sha.Sum(b) != sha256.Sum256(b) {
			t.Error("Sum")
		}
		at := min(max(cut, 0), len(b))
		if sha.Tagged(tag, b[:at], b[at:]) != sha256.Sum256(append([]byte{tag}, b...)) {
			t.Error("Tagged")
		}
	})
}

func BenchmarkTagged(b *testing.B) {
	parts := [][]byte{mixed(32), mixed(32)}
	for b.Loop() {
		sha.Tagged(1, parts...)
	}
}
