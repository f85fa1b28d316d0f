package lam_test

import (
	"bytes"
	"crypto/sha256"
	"encoding/hex"
	"math"
	"slices"
	"strconv"
	"strings"
	"testing"

	"affiant/api"
	"affiant/lam"
)

// tagged, secretOf, publicOf, keyOf, bitOf, signed: what the promises say, by the library's hash.

func tagged(tag byte, parts ...[]byte) api.Hash {
	return sha256.Sum256(append([]byte{tag}, slices.Concat(parts...)...))
}

func secretOf(seed api.Hash, i, v int) api.Hash {
	return tagged('s', seed[:], []byte{byte(i), byte(v)})
}

func publicOf(secret api.Hash) api.Hash { return tagged('p', secret[:]) }

func keyOf(seed api.Hash) api.Hash {
	var row []byte
	for i := range 32 {
		for v := range 2 {
			p := publicOf(secretOf(seed, i, v))
			row = append(row, p[:]...)
		}
	}
	return tagged('k', row)
}

// bitOf asks the digest's bits as they are written down, not by shifts.
func bitOf(msg []byte, i int) int {
	d := tagged('m', msg)
	digits := strconv.FormatInt(int64(d[i/8])+256, 2)
	return int(digits[1+i%8] - '0')
}

func signed(seed api.Hash, msg []byte) api.One {
	var s api.One
	for i := range 32 {
		v := bitOf(msg, i)
		s.Open = append(s.Open, secretOf(seed, i, v))
		s.Shut = append(s.Shut, publicOf(secretOf(seed, i, 1-v)))
	}
	return s
}

// rising is 0, 1, .. 31.
func rising() api.Hash {
	var h api.Hash
	for i := range h {
		h[i] = byte(i)
	}
	return h
}

func full() api.Hash {
	return api.Hash(bytes.Repeat([]byte{255}, 32))
}

var seeds = []api.Hash{{}, {1}, {31: 1}, rising(), full(), sha256.Sum256([]byte("seed"))}

// msgs: of the last four, digests that begin with 16 bits of 0, 16 bits of 1, and two that begin with the same 32 bits.
var msgs = [][]byte{
	nil, []byte("a"), []byte("b"), []byte("ab"), {0}, {0, 0}, []byte("m"), bytes.Repeat([]byte("long "), 1000),
	[]byte("msg 36265"), []byte("msg 62651"), []byte("msg 18743"), []byte("msg 98996"),
}

func isSame(a, b api.One) bool {
	return slices.Equal(a.Open, b.Open) && slices.Equal(a.Shut, b.Shut)
}

func clone(s api.One) api.One {
	return api.One{Open: slices.Clone(s.Open), Shut: slices.Clone(s.Shut)}
}

// P3.1

func TestKeyOfKnownSeeds(t *testing.T) {
	for _, c := range []struct {
		seed api.Hash
		want string
	}{
		{api.Hash{}, "d976116795d194ebcd82889bc95f9c6bad1225f50058bdb7746674273f370e34"},
		{rising(), "a854bb0122606c5884642d9b4bd57746d744cfbcd67fd24e24686901587ddcfc"},
		{full(), "5325d61565473a3979aa0df4ec6730b5c81432ad7f5a6d7c219f3a4a57e2e726"},
	} {
		key := lam.Key(c.seed)
		if got := hex.EncodeToString(key[:]); got != c.want {
			t.Errorf("seed %x: %s, want %s", c.seed[:3], got, c.want)
		}
	}
}

func TestKeyIsOfAllPublicParts(t *testing.T) {
	for i, seed := range seeds {
		if lam.Key(seed) != keyOf(seed) || lam.Key(seed) != lam.Key(seed) {
			t.Errorf("seed %d", i)
		}
	}
}

func TestKeyHangsOnEachBitOfItsSeed(t *testing.T) {
	seed := rising()
	seen := map[api.Hash]int{lam.Key(seed): -1}
	for i := range 256 {
		seed[i/8] ^= 1 << (i % 8)
		key := lam.Key(seed)
		if at, ok := seen[key]; ok {
			t.Fatalf("bit %d has the key of %d", i, at)
		}
		seen[key] = i
		seed[i/8] ^= 1 << (i % 8)
	}
}

func TestBit(t *testing.T) {
	for k, msg := range msgs {
		for i := range 256 {
			if got := lam.Bit(msg, i); got != bitOf(msg, i) {
				t.Errorf("message %d, bit %d: %d", k, i, got)
			}
		}
	}
}

// The digest of "b" begins e0 21, that of "a" 3c 44, and ends fe.
func TestBitOfKnownDigests(t *testing.T) {
	for _, c := range []struct {
		msg  string
		from int
		want string
	}{
		{"b", 0, "1110000000100001"},
		{"a", 0, "0011110001000100"},
		{"a", 248, "11111110"},
		{"msg 36265", 0, "00000000000000000100111001111001"},
		{"msg 62651", 0, "11111111111111110011001000000110"},
	} {
		for i, want := range c.want {
			if got := lam.Bit([]byte(c.msg), c.from+i); got != int(want-'0') {
				t.Errorf("%q, bit %d: %d", c.msg, c.from+i, got)
			}
		}
	}
}

func TestBitOfNothing(t *testing.T) {
	for i := range 256 {
		if lam.Bit(nil, i) != lam.Bit([]byte{}, i) || lam.Bit(nil, i) != lam.Bit([]byte("full")[:0], i) {
			t.Errorf("bit %d", i)
		}
	}
}

// A digest has 256 bits: of other places there is none.
func TestBitThatIsNone(t *testing.T) {
	for k, msg := range msgs {
		for _, i := range []int{-1, -7, -8, -9, -256, 256, 257, 263, 264, 1 << 32, math.MaxInt, math.MinInt, math.MinInt + 7} {
			if got := lam.Bit(msg, i); got != 0 {
				t.Errorf("message %d, bit %d: %d", k, i, got)
			}
		}
	}
}

// P3.2

func TestSign(t *testing.T) {
	for i, seed := range seeds {
		for k, msg := range msgs {
			s := lam.Sign(seed, msg)
			if len(s.Open) != api.Bits || len(s.Shut) != api.Bits {
				t.Fatalf("seed %d, message %d: %d, %d", i, k, len(s.Open), len(s.Shut))
			}
			if !isSame(s, signed(seed, msg)) {
				t.Errorf("seed %d, message %d", i, k)
			}
		}
	}
}

func TestSignOfKnownSeeds(t *testing.T) {
	for _, c := range []struct {
		seed      api.Hash
		msg, want string
	}{
		{api.Hash{}, "", "34238464384167ef1202afaf07f5e2e8c1e0e8d6a60444b3fc1f567913c900be"},
		{rising(), "a", "37538115bb89ca9bcfef2004d2dbbd82e35f9d2b1c78e393b40a9dfb148c17bc"},
		{rising(), "b", "223b00f2b804041834ee0d31e7a8f150905d174d5b16002ea23662686fd5320e"},
	} {
		s := lam.Sign(c.seed, []byte(c.msg))
		var row []byte
		for _, h := range slices.Concat(s.Open, s.Shut) {
			row = append(row, h[:]...)
		}
		sum := sha256.Sum256(row)
		if got := hex.EncodeToString(sum[:]); got != c.want {
			t.Errorf("seed %x, %q: %s, want %s", c.seed[:3], c.msg, got, c.want)
		}
	}
}

// A signature tells of each bit one secret, and of the other value the public part alone.
func TestSignTellsOneSecretABit(t *testing.T) {
	seed := rising()
	for k, msg := range msgs {
		s := lam.Sign(seed, msg)
		for i := range api.Bits {
			v := bitOf(msg, i)
			hidden := secretOf(seed, i, 1-v)
			if slices.Contains(s.Open, hidden) || slices.Contains(s.Shut, hidden) {
				t.Errorf("message %d: the other secret of bit %d is told", k, i)
			}
		}
	}
}

// The first 32 bits alone are signed: messages whose digests begin with the same ones have one signature.
func TestSignOfTheFirstBitsAlone(t *testing.T) {
	seed, a, b := rising(), []byte("msg 18743"), []byte("msg 98996")
	for i := range api.Bits {
		if lam.Bit(a, i) != lam.Bit(b, i) {
			t.Fatalf("bit %d", i)
		}
	}
	s := lam.Sign(seed, a)
	if !isSame(s, lam.Sign(seed, b)) || !lam.Verify(lam.Key(seed), b, s) {
		t.Error("more than the first 32 bits tells")
	}
}

// alike: messages whose digests' first 32 bits differ in one alone.
var alike = []struct {
	a, b string
	bit  int
}{
	{"msg 87998", "msg 102875", 0},
	{"msg 123737", "msg 138494", 7},
	{"msg 104839", "msg 165371", 8},
	{"msg 84658", "msg 88739", 31},
}

func TestSignDiffersWhereBitsDo(t *testing.T) {
	seed := full()
	for _, c := range alike {
		a, b := lam.Sign(seed, []byte(c.a)), lam.Sign(seed, []byte(c.b))
		for i := range api.Bits {
			if (a.Open[i] == b.Open[i]) != (i != c.bit) || (a.Shut[i] == b.Shut[i]) != (i != c.bit) {
				t.Errorf("%s, %s: bit %d", c.a, c.b, i)
			}
		}
	}
}

// P3.3

// badOnes are signatures of which a list has not just 32 hashes.
func badOnes(s api.One) []api.One {
	more := func(hs []api.Hash, n int) []api.Hash {
		return append(slices.Clone(hs), make([]api.Hash, n)...)
	}
	return []api.One{
		{}, {Open: []api.Hash{}, Shut: []api.Hash{}},
		{Open: s.Open}, {Shut: s.Shut},
		{Open: s.Open[:1], Shut: s.Shut[:1]},
		{Open: s.Open[:31], Shut: s.Shut}, {Open: s.Open, Shut: s.Shut[:31]},
		{Open: s.Open[1:], Shut: s.Shut}, {Open: s.Open, Shut: s.Shut[1:]},
		{Open: s.Open[:31], Shut: s.Shut[:31]},
		{Open: more(s.Open, 1), Shut: s.Shut}, {Open: s.Open, Shut: more(s.Shut, 1)},
		{Open: more(s.Open, 1), Shut: more(s.Shut, 1)},
		{Open: more(s.Open, 1), Shut: s.Shut[:31]}, {Open: s.Open[:31], Shut: more(s.Shut, 1)},
		{Open: more(s.Open, 32), Shut: s.Shut}, {Open: s.Open, Shut: more(s.Shut, 32)},
		{Open: more(s.Open, 32), Shut: more(s.Shut, 32)},
		{Open: slices.Concat(s.Open, s.Shut)}, {Shut: slices.Concat(s.Open, s.Shut)},
		{Open: more(s.Open, 1<<16), Shut: more(s.Shut, 1<<16)},
	}
}

func TestWhoOfOtherSizes(t *testing.T) {
	seed := rising()
	for k, msg := range msgs {
		for i, s := range badOnes(lam.Sign(seed, msg)) {
			if who, ok := lam.Who(msg, s); ok || who != (api.Hash{}) {
				t.Errorf("message %d, signature %d: %x, %v", k, i, who[:3], ok)
			}
			if lam.Verify(lam.Key(seed), msg, s) || lam.Verify(api.Hash{}, msg, s) {
				t.Errorf("message %d, signature %d: verified", k, i)
			}
		}
	}
}

// A list is as long as its length says, whatever stands in the room behind it.
func TestWhoAsksNoRoomBehind(t *testing.T) {
	seed, msg := rising(), []byte("a")
	s := lam.Sign(seed, msg)
	short := api.One{Open: clone(s).Open[:31], Shut: clone(s).Shut}
	if who, ok := lam.Who(msg, short); ok || who != (api.Hash{}) {
		t.Error("a hash of the room behind is read")
	}
	long := api.One{Open: append(clone(s).Open, full())[:32], Shut: append(clone(s).Shut, full())[:32]}
	if !lam.Verify(lam.Key(seed), msg, long) {
		t.Error("the room behind tells")
	}
}

// whoOf is the key that s gives, public parts put in their places by msg's bits.
func whoOf(msg []byte, s api.One) api.Hash {
	var row []byte
	for i := range 32 {
		open := publicOf(s.Open[i])
		shut := s.Shut[i]
		if bitOf(msg, i) == 0 {
			row = slices.Concat(row, open[:], shut[:])
		} else {
			row = slices.Concat(row, shut[:], open[:])
		}
	}
	return tagged('k', row)
}

// Who is a key of whatever hashes there are, if they are of the right number.
func TestWho(t *testing.T) {
	zeros := api.One{Open: make([]api.Hash, 32), Shut: make([]api.Hash, 32)}
	s, o := lam.Sign(rising(), []byte("a")), lam.Sign(full(), []byte("b"))
	for i, s := range []api.One{zeros, s, o, {Open: s.Shut, Shut: s.Open}, {Open: s.Open, Shut: s.Open}, {Open: s.Open, Shut: o.Shut}, {Open: o.Open, Shut: s.Shut}} {
		for k, msg := range msgs {
			who, ok := lam.Who(msg, s)
			if !ok || who != whoOf(msg, s) {
				t.Errorf("signature %d, message %d: %x, %v", i, k, who[:3], ok)
			}
			if !lam.Verify(who, msg, s) {
				t.Errorf("signature %d, message %d: not verified by its own key", i, k)
			}
			who[k] ^= 1
			if lam.Verify(who, msg, s) || lam.Verify(api.Hash{}, msg, s) {
				t.Errorf("signature %d, message %d: verified by another key", i, k)
			}
		}
	}
}

func TestVerifyOfTurnedBits(t *testing.T) {
	key, msg := lam.Key(rising()), []byte("a")
	s := lam.Sign(rising(), msg)
	for i := range api.Bits {
		for bit := range 256 {
			x := clone(s)
			x.Open[i][bit/8] ^= 1 << (bit % 8)
			if lam.Verify(key, msg, x) {
				t.Fatalf("Open %d: bit %d", i, bit)
			}
			y := clone(s)
			y.Shut[i][bit/8] ^= 1 << (bit % 8)
			if lam.Verify(key, msg, y) {
				t.Fatalf("Shut %d: bit %d", i, bit)
			}
		}
	}
}

func TestVerifyOfTurnedKeys(t *testing.T) {
	key, msg := lam.Key(rising()), []byte("a")
	s := lam.Sign(rising(), msg)
	for bit := range 256 {
		key[bit/8] ^= 1 << (bit % 8)
		if lam.Verify(key, msg, s) {
			t.Errorf("bit %d", bit)
		}
		key[bit/8] ^= 1 << (bit % 8)
	}
}

func TestVerifyOfOtherPlaces(t *testing.T) {
	key, msg := lam.Key(rising()), []byte("a")
	s := lam.Sign(rising(), msg)
	for i := range api.Bits {
		for k := range i {
			x, y, z := clone(s), clone(s), clone(s)
			x.Open[i], x.Open[k] = x.Open[k], x.Open[i]
			y.Shut[i], y.Shut[k] = y.Shut[k], y.Shut[i]
			z.Open[i], z.Open[k], z.Shut[i], z.Shut[k] = z.Open[k], z.Open[i], z.Shut[k], z.Shut[i]
			if lam.Verify(key, msg, x) || lam.Verify(key, msg, y) || lam.Verify(key, msg, z) {
				t.Fatalf("places %d, %d", i, k)
			}
		}
		// The secret's public part in its place, and the other value's in the secret's.
		w := clone(s)
		w.Open[i], w.Shut[i] = w.Shut[i], publicOf(w.Open[i])
		if lam.Verify(key, msg, w) {
			t.Fatalf("values of bit %d", i)
		}
	}
}

// A message that differs in one bit of its digest is not signed.
func TestVerifyOfAlikeMessages(t *testing.T) {
	key := lam.Key(full())
	for _, c := range alike {
		a, b := []byte(c.a), []byte(c.b)
		if lam.Verify(key, b, lam.Sign(full(), a)) || lam.Verify(key, a, lam.Sign(full(), b)) {
			t.Errorf("%s, %s", c.a, c.b)
		}
	}
}

// P3.4

func TestWhatIsSignedIsVerified(t *testing.T) {
	for i, seed := range seeds {
		for k, msg := range msgs {
			s := lam.Sign(seed, msg)
			for j, other := range seeds {
				if lam.Verify(lam.Key(other), msg, s) != (i == j) {
					t.Errorf("seed %d, message %d, key of %d", i, k, j)
				}
			}
			if who, ok := lam.Who(msg, s); !ok || who != lam.Key(seed) {
				t.Errorf("seed %d, message %d: by another", i, k)
			}
		}
	}
}

func TestOtherMessagesAreNot(t *testing.T) {
	key := lam.Key(rising())
	different := msgs[:len(msgs)-1]
	for i, msg := range different {
		s := lam.Sign(rising(), msg)
		for k, other := range different {
			if lam.Verify(key, other, s) != (i == k) {
				t.Errorf("messages %d, %d", i, k)
			}
		}
	}
}

func TestMessagesOfEachLength(t *testing.T) {
	key := lam.Key(full())
	for n := range 200 {
		msg := []byte(strings.Repeat("x", n))
		if !lam.Verify(key, msg, lam.Sign(full(), msg)) {
			t.Errorf("%d bytes", n)
		}
	}
}

// What is handed in stays as it is, and an answer is its caller's.

func TestCallsLeaveTheirBytes(t *testing.T) {
	whole := []byte("abcdefgh")
	msg := whole[:3]
	open, shut := make([]api.Hash, 32, 40), make([]api.Hash, 32, 40)
	s := lam.Sign(rising(), msg)
	copy(open, s.Open)
	copy(shut, s.Shut)
	given := api.One{Open: open, Shut: shut}
	lam.Bit(msg, 3)
	lam.Who(msg, given)
	lam.Verify(lam.Key(rising()), msg, given)
	if string(whole) != "abcdefgh" {
		t.Errorf("message: %q", whole)
	}
	if !isSame(given, s) || slices.ContainsFunc(slices.Concat(open[32:40], shut[32:40]), func(h api.Hash) bool { return h != (api.Hash{}) }) {
		t.Error("signature")
	}
}

func TestSignaturesAreNewMemory(t *testing.T) {
	seed, msg := rising(), []byte("a")
	want := signed(seed, msg)
	first, second := lam.Sign(seed, msg), lam.Sign(seed, msg)
	first.Open, first.Shut = first.Open[:cap(first.Open)], first.Shut[:cap(first.Shut)]
	for i := range first.Open {
		first.Open[i] = full()
	}
	if !slices.Equal(first.Shut[:32], want.Shut) {
		t.Error("Open and Shut share")
	}
	for i := range first.Shut {
		first.Shut[i] = full()
	}
	msg[0] = 'b'
	if !isSame(second, want) || !isSame(lam.Sign(seed, []byte("a")), want) {
		t.Error("signatures share, or keep their message")
	}
}

func FuzzVerify(f *testing.F) {
	f.Add([]byte("seed"), []byte("a"), []byte("b"), byte(0), byte(0))
	f.Add([]byte{}, []byte{}, []byte{0}, byte(31), byte(255))
	f.Fuzz(func(t *testing.T, seedText, msg, other []byte, place, turn byte) {
		seed := api.Hash(sha256.Sum256(seedText))
		key, s := lam.Key(seed), lam.Sign(seed, msg)
		if !lam.Verify(key, msg, s) {
			t.Error("what is signed is not verified")
		}
		if a, b := tagged('m', msg), tagged('m', other); lam.Verify(key, other, s) != bytes.Equal(a[:4], b[:4]) {
			t.Error("another message")
		}
		s.Open[place%32][turn/8] ^= 1 << (turn % 8)
		if lam.Verify(key, msg, s) {
			t.Error("a secret with a turned bit")
		}
	})
}

func BenchmarkKey(b *testing.B) {
	for b.Loop() {
		lam.Key(rising())
	}
}

func BenchmarkVerify(b *testing.B) {
	key, msg := lam.Key(rising()), []byte("a")
	s := lam.Sign(rising(), msg)
	for b.Loop() {
		lam.Verify(key, msg, s)
	}
}
