package ring_test

import (
	"bytes"
	"crypto/sha256"
	"encoding/hex"
	"math"
	"slices"
	"strings"
	"testing"

	"affiant/api"
	"affiant/lam"
	"affiant/ring"
	"affiant/tree"
)

// most: heights that there are; steps: hashes of each of their paths.
const (
	most  = 16
	steps = 4
)

// tagged, seedOf, keysOf, signed, taken: what the promises say, by the library's hash and the packages that ring stands on.

func tagged(tag byte, parts ...[]byte) api.Hash {
	return sha256.Sum256(append([]byte{tag}, slices.Concat(parts...)...))
}

func seedOf(seed api.Hash, h byte) api.Hash { return tagged('r', seed[:], []byte{h}) }

func keysOf(seed api.Hash) [][]byte {
	var keys [][]byte
	for h := byte(1); h <= most; h++ {
		key := lam.Key(seedOf(seed, h))
		keys = append(keys, key[:])
	}
	return keys
}

func signed(seed api.Hash, h int, msg []byte) api.Sig {
	return api.Sig{Height: h, One: lam.Sign(seedOf(seed, byte(h)), msg), Path: tree.Path(keysOf(seed), h-1)}
}

// taken goes up by what each step is: at an odd place the other part is the left one.
func taken(id api.Hash, h int, msg []byte, s api.Sig) bool {
	root, ok := lam.Who(msg, s.One)
	if h < 1 || h > most || s.Height != h || len(s.Path) != steps || !ok {
		return false
	}
	root = tagged(0, root[:])
	for k, other := range s.Path {
		if (h-1)>>k&1 == 1 {
			root = tagged(1, other[:], root[:])
		} else {
			root = tagged(1, root[:], other[:])
		}
	}
	return root == id
}

// rising is 0, 1, .. 31.
func rising() api.Hash {
	var h api.Hash
	for i := range h {
		h[i] = byte(i)
	}
	return h
}

func full() api.Hash {
	return api.Hash(bytes.Repeat([]byte{255}, 32))
}

// one, two: messages whose digests begin with the same 32 bits; three: one that differs there from "msg 102875" in one bit alone.
var (
	one   = []byte("msg 18743")
	two   = []byte("msg 98996")
	three = []byte("msg 87998")
)

func seeds() []api.Hash {
	return []api.Hash{{}, {1}, {31: 1}, rising(), full(), sha256.Sum256([]byte("seed"))}
}

func messages() [][]byte {
	return [][]byte{nil, []byte("a"), []byte("b"), []byte("ab"), {0}, {0, 0}, bytes.Repeat([]byte("long "), 1000), one, three, []byte("msg 102875")}
}

// noHeights: 0, 17, and numbers of which some part is a height.
func noHeights() []int {
	return []int{
		0, -1, -2, -15, -16, -17, 17, 18, 31, 32, 255, 256, 257, 259, 271, 272, -255, -253, -240,
		1<<16 + 3, 1<<32 + 1, 1<<32 + 3, 1<<32 + 16, -1<<32 + 3, 1<<40 + 1, math.MaxInt32, math.MinInt32,
		math.MaxInt, math.MaxInt - 1, math.MinInt, math.MinInt + 1, math.MinInt + 3, math.MinInt + 16,
	}
}

func isSame(a, b api.Sig) bool {
	return a.Height == b.Height && slices.Equal(a.One.Open, b.One.Open) && slices.Equal(a.One.Shut, b.One.Shut) && slices.Equal(a.Path, b.Path)
}

func isZero(s api.Sig) bool {
	return s.Height == 0 && len(s.One.Open) == 0 && len(s.One.Shut) == 0 && len(s.Path) == 0
}

func clone(s api.Sig) api.Sig {
	s.One.Open, s.One.Shut, s.Path = slices.Clone(s.One.Open), slices.Clone(s.One.Shut), slices.Clone(s.Path)
	return s
}

// turn turns one bit of h.
func turn(h *api.Hash, bit int) {
	h[bit/8] ^= 1 << (bit % 8)
}

func fromHex(t *testing.T, text string) api.Hash {
	t.Helper()
	b, err := hex.DecodeString(text)
	if err != nil || len(b) != 32 {
		t.Fatalf("%q: %v", text, err)
	}
	return api.Hash(b)
}

// P5.1

func TestSeedOfKnownSeeds(t *testing.T) {
	for _, c := range []struct {
		seed api.Hash
		h    int
		want string
	}{
		{api.Hash{}, 1, "87ca3441a351e4d8e7d7f4535d8ae504f7e89661fb3bd37ae82f59042f23be2e"},
		{api.Hash{}, 16, "7f05e7f10db8dd5be735c2548ea4dd3f971d3d19895048dc2cf42f00e0a50b71"},
		{rising(), 0, "6ef96206da423490f50409c23b306ab484514de0ac049c4aa0304f91fcd0c974"},
		{rising(), 1, "6c9b992c4e69d93de6fafb2a6b2ae69d192f5c4c2b2132242ebd6676bb9e6881"},
		{full(), 16, "a7393c3cfd2d5dba2c83ca5168e89ca695b9607fd87f5b162579314824eebce5"},
		{full(), 255, "18ab0accd852b729021ad565a1c4792fb925b2c05fe72c7cc3c1010e20790792"},
	} {
		if got := ring.Seed(c.seed, c.h); got != fromHex(t, c.want) {
			t.Errorf("seed %x, height %d: %x", c.seed[:3], c.h, got)
		}
	}
}

// Each byte has a seed, heights or not.
func TestSeedOfEachByte(t *testing.T) {
	seen := map[api.Hash]int{}
	for i, seed := range seeds() {
		for h := range 256 {
			got := ring.Seed(seed, h)
			if got != seedOf(seed, byte(h)) {
				t.Errorf("seed %d, height %d", i, h)
			}
			if at, ok := seen[got]; ok {
				t.Errorf("seed %d, height %d: met at %d", i, h, at)
			}
			seen[got] = h
		}
	}
}

func TestIdentOfKnownSeeds(t *testing.T) {
	for _, c := range []struct {
		seed api.Hash
		want string
	}{
		{api.Hash{}, "ce0a01760a46af8c8ba61c51363177469d3de3609d55b81c83591dbd08354324"},
		{rising(), "2ee163efabe337224a46dd8702c2eebfabd7e6538be2c4347e73072512c6fc9d"},
		{full(), "6679932d217f3a4453183e3e1f9bff873fc51b7781fa470246e97b364ab15ea9"},
	} {
		if got := ring.Ident(c.seed); got != fromHex(t, c.want) {
			t.Errorf("seed %x: %x", c.seed[:3], got)
		}
	}
}

func TestIdentIsTheRootOfAllKeys(t *testing.T) {
	for i, seed := range seeds() {
		keys := keysOf(seed)
		if len(keys) != api.MaxHeight || ring.Ident(seed) != tree.Root(keys...) || ring.Ident(seed) != ring.Ident(seed) {
			t.Errorf("seed %d", i)
		}
	}
}

func TestIdentHangsOnEachBitOfItsSeed(t *testing.T) {
	seed := rising()
	seen := map[api.Hash]int{ring.Ident(seed): -1}
	for bit := range 256 {
		turn(&seed, bit)
		id := ring.Ident(seed)
		if at, ok := seen[id]; ok {
			t.Fatalf("bit %d has the identity of %d", bit, at)
		}
		seen[id] = bit
		turn(&seed, bit)
	}
}

// P5.2

func TestSignOfKnownSeeds(t *testing.T) {
	for _, c := range []struct {
		seed api.Hash
		h    int
		msg  string
		want string
	}{
		{api.Hash{}, 1, "", "5bf3f55704e10fe42be2e2c0e11194a77d11f467e0ef486db7fa3619bd75b058"},
		{rising(), 3, "a", "d83df8e5214e34ab0091f8b962e7396e0cf60b8ad683da49998fb07995547ad0"},
		{rising(), 16, "a", "bfdae89e27ae163f75f4f24e1dfd259b0d0d07be23b429b74d603753e564c644"},
		{full(), 8, "b", "49bb1437e1ea15f0a9c7262eefbf8c01280c8ed63ae8eccb656fa9a87683c757"},
		{full(), 9, "b", "74663f3f1400a05c0d9defd3de9ad7f80925b4e4c35e843c5513b0e0cde41489"},
	} {
		s := ring.Sign(c.seed, c.h, []byte(c.msg))
		var row []byte
		for _, h := range slices.Concat(s.One.Open, s.One.Shut, s.Path) {
			row = append(row, h[:]...)
		}
		if got := sha256.Sum256(row); s.Height != c.h || got != fromHex(t, c.want) {
			t.Errorf("seed %x, height %d, %q: %d, %x", c.seed[:3], c.h, c.msg, s.Height, got)
		}
	}
}

func TestPathOfKnownHeights(t *testing.T) {
	for _, c := range []struct {
		h    int
		want [steps]string
	}{
		{1, [steps]string{
			"d9aca020e94069e74087a8f9ea6e0ef641631e777db45c8ce341eb2eb3bc206d",
			"aaea08c27b3063da169a6f30d1c49659129879377d356a452e8ce789ba4b6b56",
			"536f02d016584cf9770877a0a952dde267dbd53f59d17c786b108a7556ae825e",
			"5f7f119b0263c8b9a457f211b567258521f9bdb84692d7eda06780ddda72a5f1",
		}},
		{8, [steps]string{
			"79c7b223fc635e87de5c003b07d0dcd015efda9cc87a86190b33cfcdc7ca1aef",
			"dc661783056f520cd4e16895d410d6443588d1a1179c2dccddffb48d3cbfda9b",
			"27a82da7a228e0cb44c835769efe25bb1435edaa35ebba2388f5b641d325e266",
			"5f7f119b0263c8b9a457f211b567258521f9bdb84692d7eda06780ddda72a5f1",
		}},
		{16, [steps]string{
			"e1e272d19c9db1190be6367df9e6ae7e3d0fe89d0188278592c5bb7852497c97",
			"5665618d68781ff9ae7cd312a9ae56dd11a0ff0d38924967e408fe4c8fe63db9",
			"095149448b72147956878b0c4eef1811cb0eddd685417c1c610b663048eccad1",
			"157a4ad99edd24d6104f5c9d6ebf1d45f5e4ad6f2451f27082ae2db72ab09715",
		}},
	} {
		path := ring.Sign(rising(), c.h, nil).Path
		if len(path) != steps {
			t.Fatalf("height %d: %d hashes", c.h, len(path))
		}
		for k, want := range c.want {
			if path[k] != fromHex(t, want) {
				t.Errorf("height %d, step %d: %x", c.h, k, path[k])
			}
		}
	}
}

func TestSign(t *testing.T) {
	for i, seed := range seeds() {
		for h := 1; h <= most; h++ {
			for _, msg := range [][]byte{nil, []byte("a"), one} {
				if !isSame(ring.Sign(seed, h, msg), signed(seed, h, msg)) {
					t.Errorf("seed %d, height %d, %q", i, h, msg)
				}
			}
		}
	}
	for k, msg := range messages() {
		if !isSame(ring.Sign(rising(), 7, msg), signed(rising(), 7, msg)) {
			t.Errorf("message %d", k)
		}
	}
}

func TestSignAtNoHeight(t *testing.T) {
	for i, seed := range seeds() {
		for _, h := range noHeights() {
			for _, msg := range [][]byte{nil, []byte("a")} {
				if s := ring.Sign(seed, h, msg); !isZero(s) {
					t.Errorf("seed %d, height %d: %d, %d, %d, %d", i, h, s.Height, len(s.One.Open), len(s.One.Shut), len(s.Path))
				}
			}
		}
	}
}

// Signatures of unlike heights have no hash in common but parts of their paths: no secret of one height is told at another.
func TestHeightsHaveSecretsOfTheirOwn(t *testing.T) {
	seen := map[api.Hash]int{}
	for h := 1; h <= most; h++ {
		s := ring.Sign(rising(), h, []byte("a"))
		for _, x := range slices.Concat(s.One.Open, s.One.Shut) {
			if at, ok := seen[x]; ok {
				t.Errorf("heights %d and %d", at, h)
			}
			seen[x] = h
		}
	}
}

// P5.3

// turned are things that s, a signature at height 3 of "a" by rising, is not any more.
func turned(s api.Sig) []api.Sig {
	more := func(hs []api.Hash, n int) []api.Hash {
		return append(slices.Clone(hs), make([]api.Hash, n)...)
	}
	other := signed(rising(), 4, []byte("a"))
	var all []api.Sig
	add := func(change func(x *api.Sig)) {
		x := clone(s)
		change(&x)
		all = append(all, x)
	}
	for _, n := range []int{0, 1, steps - 1} {
		add(func(x *api.Sig) { x.Path = x.Path[:n] })
		add(func(x *api.Sig) { x.Path = x.Path[steps-n:] })
	}
	for _, n := range []int{1, 2, steps, 16, 60, 1 << 16} {
		add(func(x *api.Sig) { x.Path = more(x.Path, n) })
		add(func(x *api.Sig) { x.One.Open = more(x.One.Open, n) })
		add(func(x *api.Sig) { x.One.Shut = more(x.One.Shut, n) })
		add(func(x *api.Sig) { x.One.Open, x.One.Shut = more(x.One.Open, n), more(x.One.Shut, n) })
	}
	for _, n := range []int{0, 1, 31} {
		add(func(x *api.Sig) { x.One.Open = x.One.Open[:n] })
		add(func(x *api.Sig) { x.One.Shut = x.One.Shut[:n] })
		add(func(x *api.Sig) { x.One.Open, x.One.Shut = x.One.Open[:n], x.One.Shut[:n] })
	}
	add(func(x *api.Sig) { x.Path = append([]api.Hash{{}}, x.Path...) })
	add(func(x *api.Sig) { slices.Reverse(x.Path) })
	add(func(x *api.Sig) { x.Path = make([]api.Hash, steps) })
	add(func(x *api.Sig) { x.Path = other.Path })
	add(func(x *api.Sig) { x.One = other.One })
	add(func(x *api.Sig) { x.One, x.Path = other.One, other.Path })
	add(func(x *api.Sig) { x.One.Open, x.One.Shut = x.One.Shut, x.One.Open })
	add(func(x *api.Sig) { x.One = signed(rising(), 3, []byte("b")).One })
	add(func(x *api.Sig) { x.One = api.One{} })
	for k := range 3 {
		add(func(x *api.Sig) { x.Path[k], x.Path[k+1] = x.Path[k+1], x.Path[k] })
	}
	return append(all, api.Sig{}, api.Sig{Height: 3}, api.Sig{Height: 3, Path: s.Path}, api.Sig{Height: 3, One: s.One}, api.Sig{One: s.One, Path: s.Path})
}

func TestVerifyOfTurnedThings(t *testing.T) {
	id, msg := ring.Ident(rising()), []byte("a")
	s := ring.Sign(rising(), 3, msg)
	if !ring.Verify(id, 3, msg, s) {
		t.Fatal("not verified as it is")
	}
	for i, x := range turned(s) {
		for h := range most + 2 {
			if ring.Verify(id, h, msg, x) || ring.Verify(api.Hash{}, h, msg, x) {
				t.Errorf("signature %d at height %d", i, h)
			}
			x.Height = h
			if ring.Verify(id, h, msg, x) != taken(id, h, msg, x) || ring.Verify(api.Hash{}, h, msg, x) {
				t.Errorf("signature %d, said to be of height %d", i, h)
			}
		}
	}
}

func TestVerifyOfTurnedBits(t *testing.T) {
	seed, h, msg := rising(), 11, []byte("a")
	id := ring.Ident(seed)
	s := ring.Sign(seed, h, msg)
	for bit := range 256 {
		for _, hs := range [][]api.Hash{s.One.Open, s.One.Shut, s.Path} {
			for i := range hs {
				turn(&hs[i], bit)
				if ring.Verify(id, h, msg, s) {
					t.Fatalf("hash %d of %d: bit %d", i, len(hs), bit)
				}
				turn(&hs[i], bit)
			}
		}
		turn(&id, bit)
		if ring.Verify(id, h, msg, s) {
			t.Fatalf("identity: bit %d", bit)
		}
		turn(&id, bit)
	}
	if !ring.Verify(id, h, msg, s) {
		t.Error("turned back")
	}
}

// What is asked, and what is said, are the same height, and one that there is.
func TestVerifyOfEachHeight(t *testing.T) {
	id, msg := ring.Ident(full()), []byte("a header")
	heights := noHeights()
	for h := 1; h <= most; h++ {
		heights = append(heights, h)
	}
	for h := 1; h <= most; h++ {
		s := ring.Sign(full(), h, msg)
		for _, asked := range heights {
			for _, said := range heights {
				s.Height = said
				if ring.Verify(id, asked, msg, s) != (asked == h && said == h) {
					t.Errorf("of %d, said to be of %d, asked at %d", h, said, asked)
				}
			}
		}
	}
}

// The root of a tree of more or fewer leaves is no identity: what leads there isn't taken.
func TestVerifyOfOtherTrees(t *testing.T) {
	msg := []byte("a")
	for _, n := range []int{1, 2, 8, 12, 15, 17, 18, 20, 31, 32, 257} {
		var keys [][]byte
		for h := 1; h <= n; h++ {
			key := lam.Key(ring.Seed(rising(), h))
			keys = append(keys, key[:])
		}
		id := tree.Root(keys...)
		for _, h := range []int{1, 2, 3, 8, 12, 15, 16, 17, 18, 31, 257} {
			if h > n {
				break
			}
			s := api.Sig{Height: h, One: lam.Sign(ring.Seed(rising(), h), msg), Path: tree.Path(keys, h-1)}
			if root, ok := tree.Up(keys[h-1], h-1, n, s.Path); !ok || root != id {
				t.Fatalf("height %d of %d: not in its tree", h, n)
			}
			if ring.Verify(id, h, msg, s) != taken(id, h, msg, s) || h > most && ring.Verify(id, h, msg, s) {
				t.Errorf("height %d of %d", h, n)
			}
		}
	}
	// A key alone is a tree of one leaf, and leads to its own root by no steps.
	key := lam.Key(ring.Seed(rising(), 1))
	s := api.Sig{Height: 1, One: lam.Sign(ring.Seed(rising(), 1), msg)}
	for i, id := range []api.Hash{key, tree.Root(key[:]), {}} {
		if ring.Verify(id, 1, msg, s) {
			t.Errorf("a key alone: %d", i)
		}
	}
}

// Whatever hashes there are, if they are as many as they should be, are a signature by the identity to which they lead.
func TestVerifyOfAnyHashes(t *testing.T) {
	msg := []byte("a")
	zeros := api.Sig{One: api.One{Open: make([]api.Hash, 32), Shut: make([]api.Hash, 32)}, Path: make([]api.Hash, steps)}
	mixed := signed(rising(), 5, msg)
	mixed.One.Open, mixed.Path = signed(full(), 9, msg).One.Open, signed(full(), 2, msg).Path
	for i, s := range []api.Sig{zeros, mixed, signed(rising(), 5, msg)} {
		key, _ := lam.Who(msg, s.One)
		for h := 1; h <= most; h++ {
			s.Height = h
			id, ok := tree.Up(key[:], h-1, most, s.Path)
			if !ok || !taken(id, h, msg, s) || !ring.Verify(id, h, msg, s) {
				t.Errorf("signature %d at height %d", i, h)
			}
			if ring.Verify(id, h, []byte("b"), s) || ring.Verify(api.Hash{}, h, msg, s) || ring.Verify(key, h, msg, s) {
				t.Errorf("signature %d at height %d: another message or identity", i, h)
			}
			if s.Height = h%most + 1; ring.Verify(id, s.Height, msg, s) || ring.Verify(id, h, msg, s) {
				t.Errorf("signature %d at height %d: the next height", i, h)
			}
		}
	}
}

// Where lists of other sizes give no key, none stands in for it: not the zero one either, to whose identity the path leads.
func TestVerifyOfNoKey(t *testing.T) {
	msg := []byte("a")
	s := signed(rising(), 5, msg)
	for i, one := range []api.One{
		{}, {Open: []api.Hash{}, Shut: []api.Hash{}},
		{Open: s.One.Open}, {Shut: s.One.Shut},
		{Open: s.One.Open[:31], Shut: s.One.Shut}, {Open: s.One.Open, Shut: s.One.Shut[:31]},
		{Open: make([]api.Hash, 33), Shut: make([]api.Hash, 32)}, {Open: make([]api.Hash, 32), Shut: make([]api.Hash, 33)},
	} {
		for _, path := range [][]api.Hash{s.Path, make([]api.Hash, steps)} {
			for h := 1; h <= most; h++ {
				id, ok := tree.Up(make([]byte, 32), h-1, most, path)
				if !ok || ring.Verify(id, h, msg, api.Sig{Height: h, One: one, Path: path}) {
					t.Errorf("signature %d at height %d", i, h)
				}
			}
		}
	}
}

// A list is as long as its length says, whatever stands in the room behind it.
func TestVerifyAsksNoRoomBehind(t *testing.T) {
	id, msg := ring.Ident(rising()), []byte("a")
	s := ring.Sign(rising(), 3, msg)
	x, y, z := clone(s), clone(s), clone(s)
	x.Path, y.One.Open, z.One.Shut = x.Path[:3], y.One.Open[:31], z.One.Shut[:31]
	if ring.Verify(id, 3, msg, x) || ring.Verify(id, 3, msg, y) || ring.Verify(id, 3, msg, z) {
		t.Error("a hash of the room behind is read")
	}
	x = clone(s)
	x.Path = append(x.Path, full())[:steps]
	x.One.Open, x.One.Shut = append(x.One.Open, full())[:32], append(x.One.Shut, full())[:32]
	if !ring.Verify(id, 3, msg, x) {
		t.Error("the room behind tells")
	}
}

// P5.4

func TestWhatIsSignedIsVerified(t *testing.T) {
	var ids []api.Hash
	for _, seed := range seeds() {
		ids = append(ids, ring.Ident(seed))
	}
	for i, seed := range seeds() {
		for h := 1; h <= most; h++ {
			msg := messages()[h%len(messages())]
			s := ring.Sign(seed, h, msg)
			for j, id := range ids {
				for asked := range most + 2 {
					if ring.Verify(id, asked, msg, s) != (i == j && asked == h) {
						t.Errorf("seed %d at %d, identity %d at %d", i, h, j, asked)
					}
				}
			}
		}
	}
}

func TestOtherMessagesAreNot(t *testing.T) {
	id := ring.Ident(rising())
	for i, msg := range messages() {
		s := ring.Sign(rising(), 1+i, msg)
		for k, other := range messages() {
			if ring.Verify(id, 1+i, other, s) != (i == k) {
				t.Errorf("messages %d, %d", i, k)
			}
		}
	}
	// The message is asked as lam asks it: by the first bits of its digest.
	if !ring.Verify(id, 16, two, ring.Sign(rising(), 16, one)) {
		t.Error("messages of one digest's beginning")
	}
}

func TestMessagesOfEachLength(t *testing.T) {
	id := ring.Ident(full())
	for n := range 130 {
		msg := []byte(strings.Repeat("x", n))
		if h := 1 + n%most; !ring.Verify(id, h, msg, ring.Sign(full(), h, msg)) {
			t.Errorf("%d bytes", n)
		}
	}
}

// A ring signs each of its heights, in whatever order, and nothing of that is kept.
func TestHeightsInAnyOrder(t *testing.T) {
	id := ring.Ident(rising())
	for _, h := range []int{16, 1, 9, 8, 2, 16, 1} {
		msg := []byte(strings.Repeat("m", h))
		if s := ring.Sign(rising(), h, msg); !isSame(s, signed(rising(), h, msg)) || !ring.Verify(id, h, msg, s) {
			t.Error(h)
		}
	}
}

// R1, R2: every call ends; what is handed in stays as it is, and an answer is its caller's.

func TestCallsEndForAnyNumbers(t *testing.T) {
	lists := [][]api.Hash{nil, {}, make([]api.Hash, 1), make([]api.Hash, 32), make([]api.Hash, 1000)}
	for _, h := range append(noHeights(), 1, 2, 15, 16) {
		ring.Seed(api.Hash{}, h)
		for _, open := range lists {
			for _, shut := range lists {
				for _, path := range lists {
					s := api.Sig{Height: h, One: api.One{Open: open, Shut: shut}, Path: path}
					if ring.Verify(api.Hash{}, h, nil, s) {
						t.Errorf("height %d: %d, %d, %d", h, len(open), len(shut), len(path))
					}
				}
			}
		}
	}
}

func TestCallsLeaveWhatTheyAreGiven(t *testing.T) {
	whole := []byte("abcdefgh")
	msg := whole[:3]
	s := signed(rising(), 6, msg)
	given, spare := clone(s), api.Hash{7}
	for _, list := range []*[]api.Hash{&given.One.Open, &given.One.Shut, &given.Path} {
		n := len(*list)
		*list = append(*list, spare, spare, spare)[: n : n+3]
	}
	id := ring.Ident(rising())
	ring.Sign(rising(), 6, msg)
	if !ring.Verify(id, 6, msg, given) || ring.Verify(id, 7, msg, given) {
		t.Error("not what is signed")
	}
	if string(whole) != "abcdefgh" || !isSame(given, s) {
		t.Error("changed")
	}
	for _, list := range [][]api.Hash{given.One.Open, given.One.Shut, given.Path} {
		for _, x := range list[len(list):cap(list)] {
			if x != spare {
				t.Error("the room behind is changed")
			}
		}
	}
}

func TestSignaturesAreNewMemory(t *testing.T) {
	msg := []byte("a")
	want := signed(rising(), 6, msg)
	first, second := ring.Sign(rising(), 6, msg), ring.Sign(rising(), 6, msg)
	lists := [][]api.Hash{first.One.Open, first.One.Shut, first.Path}
	wants := [][]api.Hash{want.One.Open, want.One.Shut, want.Path}
	for i, list := range lists {
		if !slices.Equal(list, wants[i]) {
			t.Errorf("list %d shares with one ahead", i)
		}
		list = list[:cap(list)]
		for k := range list {
			list[k] = full()
		}
	}
	msg[0] = 'b'
	if !isSame(second, want) || !isSame(ring.Sign(rising(), 6, []byte("a")), want) {
		t.Error("signatures share, or keep their message")
	}
}

func FuzzVerify(f *testing.F) {
	f.Add([]byte("seed"), 3, 4, []byte("a"), []byte("b"), byte(0), byte(0))
	f.Add([]byte{}, 16, 17, []byte{}, []byte{0}, byte(67), byte(255))
	f.Add([]byte{}, 0, -1, []byte{}, []byte{}, byte(9), byte(9))
	f.Fuzz(func(t *testing.T, seedText []byte, h, asked int, msg, other []byte, place, bit byte) {
		seed := api.Hash(sha256.Sum256(seedText))
		id, s := ring.Ident(seed), ring.Sign(seed, h, msg)
		isHeight := 1 <= h && h <= most
		if isZero(s) == isHeight || ring.Verify(id, h, msg, s) != isHeight {
			t.Errorf("height %d", h)
		}
		if !isHeight {
			return
		}
		if ring.Verify(id, asked, msg, s) != (asked == h) || ring.Verify(id, h, other, s) != taken(id, h, other, s) {
			t.Errorf("height %d, asked at %d, or another message", h, asked)
		}
		lists := [][]api.Hash{s.One.Open, s.One.Shut, s.Path}
		list := lists[int(place)%len(lists)]
		turn(&list[int(place)%len(list)], int(bit))
		if ring.Verify(id, h, msg, s) {
			t.Error("a turned bit")
		}
	})
}

func BenchmarkIdent(b *testing.B) {
	for b.Loop() {
		ring.Ident(rising())
	}
}

func BenchmarkSign(b *testing.B) {
	for b.Loop() {
		ring.Sign(rising(), 3, []byte("a header"))
	}
}

func BenchmarkVerify(b *testing.B) {
	id, s := ring.Ident(rising()), ring.Sign(rising(), 3, []byte("a header"))
	for b.Loop() {
		ring.Verify(id, 3, []byte("a header"), s)
	}
}
