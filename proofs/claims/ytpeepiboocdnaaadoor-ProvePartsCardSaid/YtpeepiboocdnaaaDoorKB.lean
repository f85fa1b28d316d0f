/- SHA-256 as a plain function of lists: words, rounds, blocks, padding. No memory, no project. Words turned: the contracts of bits.RotateLeft32, of package sha's and of the document's own turning. A block's words: the contract of package sha's spread. One more block: the contract of package sha's stir. The words' bytes, a length's bytes, how many blocks: the contracts of package sha's hashOf, putLength, Blocks. A length's eight bytes at the end of a row: the contract of package sha's putLength. SHA-256 of a row of bytes: the contract of package sha's Sum. Small facts on hashes' rows, a constant text as bytes. -/
import Derived.Test.YtpeepiboocdnaaaDoorKA
import Derived.StillTailTactics
import Derived.Lib.SlBytesConst
namespace Go.Proofs.YtpeepiboocdnaaaDoor
open Go.RowKit

/-- A word as a value. -/
def wv (x : UInt32) : Value := .int .u32 (x.toNat : Int)
/-! The operations on words under names of their own: the walk then leaves them as they are. -/
def xW (x y : UInt32) : UInt32 := x ^^^ y
def aW (x y : UInt32) : UInt32 := x &&& y
def oW (x y : UInt32) : UInt32 := x ||| y
def pW (x y : UInt32) : UInt32 := x + y
def nW (x : UInt32) : UInt32 := ~~~x
def rW (x : UInt32) (n : Nat) : UInt32 := x >>> UInt32.ofNat n
def lW (x : UInt32) (n : Nat) : UInt32 := x <<< UInt32.ofNat n
def bW (b : UInt8) : UInt32 := b.toUInt32
def rotr (x : UInt32) (n : Nat) : UInt32 := oW (rW x n) (lW x (32 - n))
def rot3 (x : UInt32) (i j k : Nat) : UInt32 := xW (xW (rotr x i) (rotr x j)) (rotr x k)
def ssig0 (x : UInt32) : UInt32 := xW (xW (rotr x 7) (rotr x 18)) (rW x 3)
def ssig1 (x : UInt32) : UInt32 := xW (xW (rotr x 17) (rotr x 19)) (rW x 10)
def wordOf (p q r s : UInt8) : UInt32 := oW (oW (oW (lW (bW p) 24) (lW (bW q) 16)) (lW (bW r) 8)) (bW s)
def wordAt (b : List UInt8) (i : Nat) : UInt32 := wordOf (b.getD (4 * i) 0) (b.getD (4 * i + 1) 0) (b.getD (4 * i + 2) 0) (b.getD (4 * i + 3) 0)
/-- The first n words of a block. -/
def words16 (b : List UInt8) : Nat → List UInt32
  | 0 => []
  | n + 1 => words16 b n ++ [wordAt b n]
def nextW (w : List UInt32) : UInt32 := pW (pW (pW (w.getD (w.length - 16) 0) (ssig0 (w.getD (w.length - 15) 0))) (w.getD (w.length - 7) 0)) (ssig1 (w.getD (w.length - 2) 0))
/-- A block's words: n more than 16. -/
def sched (b : List UInt8) : Nat → List UInt32
  | 0 => words16 b 16
  | n + 1 => sched b n ++ [nextW (sched b n)]
structure St where
  (a b c d e f g h : UInt32)
deriving DecidableEq
def keysL : List UInt32 := [0x428a2f98, 0x71374491, 0xb5c0fbcf, 0xe9b5dba5, 0x3956c25b, 0x59f111f1, 0x923f82a4, 0xab1c5ed5,
  0xd807aa98, 0x12835b01, 0x243185be, 0x550c7dc3, 0x72be5d74, 0x80deb1fe, 0x9bdc06a7, 0xc19bf174,
  0xe49b69c1, 0xefbe4786, 0x0fc19dc6, 0x240ca1cc, 0x2de92c6f, 0x4a7484aa, 0x5cb0a9dc, 0x76f988da,
  0x983e5152, 0xa831c66d, 0xb00327c8, 0xbf597fc7, 0xc6e00bf3, 0xd5a79147, 0x06ca6351, 0x14292967,
  0x27b70a85, 0x2e1b2138, 0x4d2c6dfc, 0x53380d13, 0x650a7354, 0x766a0abb, 0x81c2c92e, 0x92722c85,
  0xa2bfe8a1, 0xa81a664b, 0xc24b8b70, 0xc76c51a3, 0xd192e819, 0xd6990624, 0xf40e3585, 0x106aa070,
  0x19a4c116, 0x1e376c08, 0x2748774c, 0x34b0bcb5, 0x391c0cb3, 0x4ed8aa4a, 0x5b9cca4f, 0x682e6ff3,
  0x748f82ee, 0x78a5636f, 0x84c87814, 0x8cc70208, 0x90befffa, 0xa4506ceb, 0xbef9a3f7, 0xc67178f2]
def start : St := ⟨0x6a09e667, 0xbb67ae85, 0x3c6ef372, 0xa54ff53a, 0x510e527f, 0x9b05688c, 0x1f83d9ab, 0x5be0cd19⟩
def tOf (k w : UInt32) (s : St) : UInt32 := pW (pW (pW (pW s.h (rot3 s.e 6 11 25)) (xW (aW s.e s.f) (aW (nW s.e) s.g))) k) w
def majOf (s : St) : UInt32 := xW (xW (aW s.a s.b) (aW s.a s.c)) (aW s.b s.c)
def uOf (s : St) : UInt32 := pW (rot3 s.a 2 13 22) (majOf s)
def round (k w : UInt32) (s : St) : St := ⟨pW (tOf k w s) (uOf s), s.a, s.b, s.c, pW s.d (tOf k w s), s.e, s.f, s.g⟩
/-- n rounds. -/
def rounds (w : List UInt32) (s : St) : Nat → St
  | 0 => s
  | n + 1 => round (keysL.getD n 0) (w.getD n 0) (rounds w s n)
def St.add (s t : St) : St := ⟨pW s.a t.a, pW s.b t.b, pW s.c t.c, pW s.d t.d, pW s.e t.e, pW s.f t.f, pW s.g t.g, pW s.h t.h⟩
def St.cells (s : St) : List UInt32 := [s.a, s.b, s.c, s.d, s.e, s.f, s.g, s.h]
/-- The state after one more block. -/
def stir (s : St) (b : List UInt8) : St := s.add (rounds (sched b 48) s 64)
/-- The state after n blocks of l. -/
def stirs (s : St) (l : List UInt8) : Nat → St
  | 0 => s
  | n + 1 => stir (stirs s l n) ((l.drop (64 * n)).take 64)
/-- A length's eight bytes, in bits, the highest first. -/
def lenB (n : Nat) : List UInt8 := (List.range 8).map fun i => UInt8.ofNat (8 * n / 2 ^ (8 * (7 - i)))
/-- What stands behind n bytes. -/
def padL (n : Nat) : List UInt8 := 0x80 :: (List.replicate (64 * ((n + 8) / 64 + 1) - n - 9) 0 ++ lenB n)
def bytesW (x : UInt32) : List UInt8 := [UInt8.ofNat (x.toNat / 2 ^ 24), UInt8.ofNat (x.toNat / 2 ^ 16), UInt8.ofNat (x.toNat / 2 ^ 8), UInt8.ofNat (x.toNat / 2 ^ 0)]
def outB (s : St) : List UInt8 := s.cells.flatMap bytesW
/-- SHA-256 of a list of bytes. -/
def sumL (l : List UInt8) : List UInt8 := outB (stirs start (l ++ padL l.length) ((l.length + 8) / 64 + 1))
def tagL (t : UInt8) (l : List UInt8) : List UInt8 := sumL (t :: l)

theorem outB_len (s : St) : (outB s).length = 32 := rfl
theorem sumL_len (l : List UInt8) : (sumL l).length = 32 := rfl
theorem sum_nil : (sumL []).take 4 = [0xe3, 0xb0, 0xc4, 0x42] := by decide +kernel
theorem sum_abc : (sumL [97, 98, 99]).take 4 = [0xba, 0x78, 0x16, 0xbf] := by decide +kernel
end Go.Proofs.YtpeepiboocdnaaaDoor

namespace Go.Proofs.YtpeepiboocdnaaaDoor
open Go.RowKit

theorem w_lt (x : UInt32) : x.toNat < 4294967296 := x.toNat_lt
theorem ofInt_w (x : UInt32) : BitVec.ofInt 32 (x.toNat : Int) = x.toBitVec := by
  apply BitVec.eq_of_toNat_eq
  rw [BitVec.toNat_ofInt]
  have := w_lt x
  have e : x.toBitVec.toNat = x.toNat := rfl
  rw [e]
  omega
theorem ret_w {k : IntKind} {a b : Int} (h : a = b) : Ending.returned (.int k a) = .returned (.int k b) := by rw [h]
theorem wrap_w (x : UInt32) : IntKind.u32.wrap (x.toNat : Int) = (x.toNat : Int) := by
  have := w_lt x
  show (x.toNat : Int) % 4294967296 = _
  omega
theorem bits_or (x y : UInt32) : bits .or .u32 (x.toNat : Int) (y.toNat : Int) = ((oW x y).toNat : Int) := by
  simp only [bits, IntKind.bits, ofInt_w]
  exact wrap_w _
theorem bits_and (x y : UInt32) : bits .and .u32 (x.toNat : Int) (y.toNat : Int) = ((aW x y).toNat : Int) := by
  simp only [bits, IntKind.bits, ofInt_w]
  exact wrap_w _
theorem bits_xor (x y : UInt32) : bits .xor .u32 (x.toNat : Int) (y.toNat : Int) = ((xW x y).toNat : Int) := by
  simp only [bits, IntKind.bits, ofInt_w]
  exact wrap_w _
theorem shr_w (x : UInt32) (n : Nat) (h : n < 32) : (x.toNat : Int) / 2 ^ n = ((rW x n).toNat : Int) := by
  rw [rW, UInt32.toNat_shiftRight, UInt32.toNat_ofNat', Nat.shiftRight_eq_div_pow]
  have : n % 2 ^ 32 % 32 = n := by omega
  rw [this]
  norm_cast
theorem shl_w (x : UInt32) (n : Nat) (h : n < 32) : (x.toNat : Int) * 2 ^ n % 4294967296 = ((lW x n).toNat : Int) := by
  rw [lW, UInt32.toNat_shiftLeft, UInt32.toNat_ofNat', Nat.shiftLeft_eq]
  have : n % 2 ^ 32 % 32 = n := by omega
  rw [this, show (2 : Nat) ^ 32 = 4294967296 from rfl]
  simp only [Int.natCast_emod, Int.natCast_mul, Int.natCast_pow]
  rfl
theorem add_w (x y : UInt32) : ((x.toNat : Int) + (y.toNat : Int)) % 4294967296 = ((pW x y).toNat : Int) := by
  rw [pW, UInt32.toNat_add, show (2 : Nat) ^ 32 = 4294967296 from rfl]
  simp only [Int.natCast_emod, Int.natCast_add]
  rfl
theorem not_w (x : UInt32) : 4294967295 - (x.toNat : Int) = ((nW x).toNat : Int) := by
  have := w_lt x
  have h : (nW x).toNat = 4294967295 - x.toNat := by
    rw [nW, UInt32.toNat_not]
    rfl
  omega
theorem wrap_add (x y : UInt32) : IntKind.u32.wrap ((x.toNat : Int) + (y.toNat : Int)) = ((pW x y).toNat : Int) := add_w x y
theorem wrap_byte (p : UInt8) : IntKind.u32.wrap (p.toNat : Int) = ((bW p).toNat : Int) := by
  have h : (bW p).toNat = p.toNat := rfl
  have := p.toNat_lt
  rw [h]
  show (p.toNat : Int) % 4294967296 = _
  omega
theorem wrap_l24 (x : UInt32) : IntKind.u32.wrap ((x.toNat : Int) * 16777216) = ((lW x 24).toNat : Int) := shl_w x 24 (by omega)
theorem wrap_l16 (x : UInt32) : IntKind.u32.wrap ((x.toNat : Int) * 65536) = ((lW x 16).toNat : Int) := shl_w x 16 (by omega)
theorem wrap_l8 (x : UInt32) : IntKind.u32.wrap ((x.toNat : Int) * 256) = ((lW x 8).toNat : Int) := shl_w x 8 (by omega)
theorem div_r (x : UInt32) : (x.toNat : Int) / 8 = ((rW x 3).toNat : Int) ∧ (x.toNat : Int) / 1024 = ((rW x 10).toNat : Int) := ⟨shr_w x 3 (by omega), shr_w x 10 (by omega)⟩
theorem add_pos (ad : Addr) (n : Nat) (h : 0 < n) : ad.add n = ⟨ad.block, ad.off + n, none⟩ := by
  unfold Addr.add
  rw [if_neg (by omega)]
theorem bits_not (x : UInt32) : bits .xor .u32 (if IntKind.u32.signed = true then -1 else IntKind.u32.max) (x.toNat : Int) = ((nW x).toNat : Int) := by
  have e : BitVec.ofInt 32 (if IntKind.u32.signed = true then -1 else IntKind.u32.max) = BitVec.allOnes 32 := by decide
  simp only [bits, IntKind.bits, ofInt_w]
  rw [e]
  have h : (BitVec.allOnes 32 ^^^ x.toBitVec) = (nW x).toBitVec := by rw [BitVec.allOnes_xor]; rfl
  exact (congrArg (fun z : BitVec 32 => IntKind.u32.wrap (z.toNat : Int)) h).trans (wrap_w (nW x))
theorem neg_low (n : Nat) (h0 : 1 ≤ n) (h1 : n ≤ 31) : bits .and .u64 (IntKind.u64.wrap (-(n : Int))) 31 = ((32 - n : Nat) : Int) := by
  have h : ∀ m : Fin 32, 1 ≤ m.val → bits .and .u64 (IntKind.u64.wrap (-(m.val : Int))) 31 = ((32 - m.val : Nat) : Int) := by decide +kernel
  exact h ⟨n, by omega⟩ h0
theorem rot_val (x : UInt32) (n : Nat) (h0 : 1 ≤ n) (h1 : n ≤ 31) : bits .or .u32 ((x.toNat : Int) / 2 ^ n) ((x.toNat : Int) * 2 ^ (32 - n) % 4294967296) = ((rotr x n).toNat : Int) := by
  rw [shr_w x n (by omega), shl_w x (32 - n) (by omega), bits_or, rotr]
theorem or_com (x y : UInt32) : oW x y = oW y x := UInt32.or_comm x y
theorem rot_val' (x : UInt32) (n : Nat) (h0 : 1 ≤ n) (h1 : n ≤ 31) : bits .or .u32 ((x.toNat : Int) * 2 ^ (32 - n) % 4294967296) ((x.toNat : Int) / 2 ^ n) = ((rotr x n).toNat : Int) := by
  rw [shr_w x n (by omega), shl_w x (32 - n) (by omega), bits_or, rotr, or_com]

set_option maxHeartbeats 400000 in
theorem Rot_any (x : UInt32) (n : Nat) (w : World) (h0 : 1 ≤ n) (h1 : n ≤ 31) :
    Calls Tryd.prog 68 #[.int .u32 (x.toNat : Int), .int .i64 (-(n : Int))] w fun e w' => e = .returned (.int .u32 ((rotr x n).toNat : Int)) ∧ w' = w := by
  have hb := neg_low n h0 h1
  obtain ⟨m, hm⟩ : ∃ m, m = 32 - n := ⟨_, rfl⟩
  rw [← hm] at hb
  have hm1 : 1 ≤ m := by omega
  have hm2 : m ≤ 31 := by omega
  have HM := Lib.hid hm
  clear hm
  go_enter Tryd.func68, Tryd.ntmps68
  go_wp2
  go_ret
  refine ⟨ret_w ?_, rfl⟩
  have e1 : 32 - m = n := by have := HM.out; omega
  have e2 := HM.out
  rw [e1, e2]
  exact rot_val' x n h0 h1
set_option maxHeartbeats 400000 in
theorem turn_any (x : UInt32) (n : Nat) (w : World) (h0 : 1 ≤ n) (h1 : n ≤ 31) :
    Calls Tryd.prog 67 #[.int .u32 (x.toNat : Int), .int .u64 (n : Int)] w fun e w' => e = .returned (.int .u32 ((rotr x n).toNat : Int)) ∧ w' = w := by
  go_enter Tryd.func67, Tryd.ntmps67
  go_wp2
  go_ret
  exact ⟨ret_w (rot_val x n h0 h1), rfl⟩
set_option maxHeartbeats 400000 in
theorem turned_any (x : UInt32) (i j k : Nat) (w : World) (hi0 : 1 ≤ i) (hi : i ≤ 31) (hj0 : 1 ≤ j) (hj : j ≤ 31) (hk0 : 1 ≤ k) (hk : k ≤ 31) :
    Calls Tryd.prog 65 #[.int .u32 (x.toNat : Int), .int .i64 (i : Int), .int .i64 (j : Int), .int .i64 (k : Int)] w fun e w' => e = .returned (.int .u32 ((rot3 x i j k).toNat : Int)) ∧ w' = w := by
  have bx := bits_xor
  go_enter Tryd.func65, Tryd.ntmps65
  go_wp2_with (go_at_call 68; refine (Rot_any x _ _ (by assumption) (by assumption)).mono ?_; rintro e w' ⟨rfl, rfl⟩)
  go_ret
  exact ⟨rfl, rfl⟩
/-- .. by a written number. -/
theorem Rot_m (x : UInt32) (m : Int) (w : World) (h : -31 ≤ m ∧ m ≤ -1) :
    Calls Tryd.prog 68 #[.int .u32 (x.toNat : Int), .int .i64 m] w fun e w' => e = .returned (.int .u32 ((rotr x (-m).toNat).toNat : Int)) ∧ w' = w := by
  have e : m = -(((-m).toNat : Nat) : Int) := by omega
  have := Rot_any x (-m).toNat w (by omega) (by omega)
  rwa [← e] at this
theorem turn_m (x : UInt32) (m : Int) (w : World) (h : 1 ≤ m ∧ m ≤ 31) :
    Calls Tryd.prog 67 #[.int .u32 (x.toNat : Int), .int .u64 m] w fun e w' => e = .returned (.int .u32 ((rotr x m.toNat).toNat : Int)) ∧ w' = w := by
  have e : m = ((m.toNat : Nat) : Int) := by omega
  have := turn_any x m.toNat w (by omega) (by omega)
  rwa [← e] at this
theorem turned_m (x : UInt32) (i j k : Int) (w : World) (hi : 1 ≤ i ∧ i ≤ 31) (hj : 1 ≤ j ∧ j ≤ 31) (hk : 1 ≤ k ∧ k ≤ 31) :
    Calls Tryd.prog 65 #[.int .u32 (x.toNat : Int), .int .i64 i, .int .i64 j, .int .i64 k] w fun e w' => e = .returned (.int .u32 ((rot3 x i.toNat j.toNat k.toNat).toNat : Int)) ∧ w' = w := by
  have e1 : i = ((i.toNat : Nat) : Int) := by omega
  have e2 : j = ((j.toNat : Nat) : Int) := by omega
  have e3 : k = ((k.toNat : Nat) : Int) := by omega
  have := turned_any x i.toNat j.toNat k.toNat w (by omega) (by omega) (by omega) (by omega) (by omega) (by omega)
  rwa [← e1, ← e2, ← e3] at this
end Go.Proofs.YtpeepiboocdnaaaDoor

namespace Go.Proofs.YtpeepiboocdnaaaDoor
open Go.RowKit

theorem words16_len (b : List UInt8) (n : Nat) : (words16 b n).length = n := by
  induction n with
  | zero => rfl
  | succ n ih => simp [words16, ih]
theorem sched_len (b : List UInt8) (n : Nat) : (sched b n).length = 16 + n := by
  induction n with
  | zero => exact words16_len b 16
  | succ n ih => simp [sched, ih]; omega
/-- A row of 64 words of which so many are there. -/
def rowW (l : List UInt32) : Array Value := (l.map wv ++ List.replicate (64 - l.length) (Value.int .u32 0)).toArray
theorem rowW_next (l : List UInt32) (x : UInt32) (h : l.length < 64) : (rowW l).setIfInBounds l.length (wv x) = rowW (l ++ [x]) := by
  unfold rowW
  obtain ⟨k, hk⟩ : ∃ k, 64 - l.length = k + 1 := ⟨64 - l.length - 1, by omega⟩
  have hk' : 64 - (l ++ [x]).length = k := by simp; omega
  rw [hk, hk']
  apply Array.ext'
  simp [List.replicate_succ]
theorem rowW_get (l : List UInt32) (j : Nat) (h : j < l.length) : (rowW l)[j]? = some (wv (l.getD j 0)) := by
  unfold rowW
  rw [List.getElem?_toArray, List.getElem?_append_left (by simpa using h)]
  simp [h]
theorem rowW_zero (l : List UInt32) (j : Nat) (h : l.length ≤ j) (h' : j < 64) : (rowW l)[j]? = some (.int .u32 0) := by
  unfold rowW
  rw [List.getElem?_toArray, List.getElem?_append_right (by simpa using h), List.getElem?_replicate]
  simp; omega

theorem getD_at {α : Type} (b : List α) (i : Nat) (d : α) (h : i < b.length) : b.getD i d = b[i] := by
  rw [List.getD_eq_getElem?_getD, List.getElem?_eq_getElem h]; rfl
theorem wordAt_of {b : List UInt8} {k : Nat} {p0 p1 p2 p3 : UInt8} (h : 4 * k + 3 < b.length) (h0 : p0 = b[4 * k]'(by omega)) (h1 : p1 = b[4 * k + 1]'(by omega)) (h2 : p2 = b[4 * k + 2]'(by omega)) (h3 : p3 = b[4 * k + 3]'(by omega)) :
    wordAt b k = wordOf p0 p1 p2 p3 := by
  unfold wordAt
  rw [getD_at b _ _ (show 4 * k < b.length by omega), getD_at b _ _ (show 4 * k + 1 < b.length by omega), getD_at b _ _ (show 4 * k + 2 < b.length by omega), getD_at b _ _ h, h0, h1, h2, h3]
/-- A word stored where the row ends. -/
theorem rowW_store {w : World} {g n : Nat} {l : List UInt32} {x : UInt32} {t : TypeId} (h : w.heap[g]? = some (.cells (rowW l) t (0, 0))) (hn : l.length = n) (hl : n < 64) :
    (w.setCell ⟨g, n, none⟩ (.int .u32 (x.toNat : Int))).heap[g]? = some (.cells (rowW (l ++ [x])) t (0, 0)) := by
  subst hn
  exact heap_setCell_to h (rowW_next l x hl)

theorem heap_alloc_2 (w : World) (o1 o2 : Obj) : ((w.alloc o1).alloc o2).heap[w.heap.size + 1]? = some o2 := by
  have := heap_alloc_new (w.alloc o1) o2
  rwa [show (w.alloc o1).heap.size = w.heap.size + 1 from by simp] at this
theorem heap_alloc_1 (w : World) (o1 o2 : Obj) : ((w.alloc o1).alloc o2).heap[w.heap.size]? = some o1 :=
  (Below.heap_alloc (w.alloc o1) o2 w.heap.size (by simp)).trans (heap_alloc_new w o1)
theorem size_64 : (Tryd.prog.info? 93).map (·.size) = some 64 := by kernel_rfl
theorem rowW_full {l : List UInt32} (h : l.length = 64) : rowW l = (l.map wv).toArray := by simp [rowW, h]
theorem rowW_size (l : List UInt32) (h : l.length ≤ 64) : (rowW l).size = 64 := by simp [rowW]; omega
theorem wv_all (l : List UInt32) : (l.map wv).toArray.all (·.oneCell') = true := by
  rw [Array.all_eq_true_iff_forall_mem]
  intro v hv
  simp only [List.mem_toArray, List.mem_map] at hv
  obtain ⟨x, _, rfl⟩ := hv
  rfl

set_option maxRecDepth 100000 in
set_option maxHeartbeats 2000000 in
theorem spread_any (A : Option Addr) (b : List UInt8) (c : Nat) (w : World) (hr : RdB w A b) (hl : b.length = 64) (hc : 64 ≤ c) :
    Calls Tryd.prog 64 #[.slice A 64 c] w fun e w' => e = .returned (.agg ((sched b 48).map wv).toArray) ∧ w.grownBy w' none := by
  go_enter Tryd.func64, Tryd.ntmps64
  have hne : b ≠ [] := by rintro rfl; simp at hl
  obtain ⟨ad, rfl, hcell⟩ := hr.get (k := 0) (by omega)
  clear hcell
  go_wp2
  go_loopw [11] (fun i wr => ∃ k : Nat, k ≤ 16 ∧ i = .int .i64 k ∧ Hid (wr.heap[w.heap.size + 1]? = some (.cells (rowW (words16 b k)) 93 (0, 0))) ∧ Hid (wr.heap[w.heap.size]? = some (.cells (rowW []) 93 (0, 0))) ∧ w.grownBy wr none) (fun i _ => 16 - (intOf i).toNat)
  case atStart =>
    refine ⟨0, by omega, rfl, ?_, ?_, grown_alloc (grown_alloc (grown_refl _ _) _) _⟩
    · show _ = _
      exact heap_alloc_2 _ _ _
    · show _ = _
      exact heap_alloc_1 _ _ _
  case round =>
    obtain ⟨k, hk, rfl, hq, hq0, hg⟩ := hrel
    by_cases hlt : k < 16
    · have hr' := hr.kept hg
      obtain ⟨_, e0, hc0⟩ := RdB.get hr' (k := 4 * k) (by omega)
      obtain ⟨_, e1, hc1⟩ := RdB.get hr' (k := 4 * k + 1) (by omega)
      obtain ⟨_, e2, hc2⟩ := RdB.get hr' (k := 4 * k + 2) (by omega)
      obtain ⟨_, e3, hc3⟩ := RdB.get hr' (k := 4 * k + 3) (by omega)
      cases e0; cases e1; cases e2; cases e3
      rw [← add_add, add_pos _ _ (by omega)] at hc1 hc2 hc3
      obtain ⟨p0, hp0⟩ : ∃ p, p = b[4 * k]'(by omega) := ⟨_, rfl⟩
      obtain ⟨p1, hp1⟩ : ∃ p, p = b[4 * k + 1]'(by omega) := ⟨_, rfl⟩
      obtain ⟨p2, hp2⟩ : ∃ p, p = b[4 * k + 2]'(by omega) := ⟨_, rfl⟩
      obtain ⟨p3, hp3⟩ : ∃ p, p = b[4 * k + 3]'(by omega) := ⟨_, rfl⟩
      rw [← hp0] at hc0
      rw [← hp1] at hc1
      rw [← hp2] at hc2
      rw [← hp3] at hc3
      have HP0 := Lib.hid hp0
      have HP1 := Lib.hid hp1
      have HP2 := Lib.hid hp2
      have HP3 := Lib.hid hp3
      clear hp0 hp1 hp2 hp3
      have r0 := wrap_byte
      have r1 := wrap_l24
      have r2 := wrap_l16
      have r3 := wrap_l8
      have r4 := bits_or
      have k64 : (k : Int) < 64 := by omega
      have hlen := words16_len b k
      have hcell : wr.cell? ⟨w.heap.size + 1, k, none⟩ = some (.int .u32 0) := by
        rw [cell_of_row wr _ _ _ _ _ hq.out]; exact rowW_zero _ _ (by omega) (by omega)
      have hfro : wr.frozen? ⟨w.heap.size + 1, k, none⟩ = false := frozen_of_row wr _ _ _ _ hq.out
      clear hlen
      go_wp2
      go_still_tail 24, (by kernel_rfl)
      clear r0 r1 r2 r3 r4
      change wpList _ _ _ _ _ wr.drew
      go_wp2
      go_roundw
      case rel =>
        refine ⟨k + 1, by omega, by go_num, ?_, ?_, grown_set (grown_drew hg) (.inr (by show _ ≤ w.heap.size + 1; omega)) _⟩
        · show _ = _
          have e : words16 b (k + 1) = words16 b k ++ [wordOf p0 p1 p2 p3] := by
            rw [← wordAt_of (by omega) HP0.out HP1.out HP2.out HP3.out]; rfl
          rw [e]
          exact rowW_store (w := wr.drew) hq.out (words16_len b k) (by omega)
        · show _ = _
          exact (Below.heap_setCell wr.drew ⟨w.heap.size + 1, k, none⟩ _ w.heap.size (by simp)).trans hq0.out
      case measure => simp [intOf]; omega
    · have hk16 : k = 16 := by omega
      subst hk16
      clear hlt hk
      rw [show ((16 : Nat) : Int) = 16 from rfl]
      go_wp2
      go_loopw [6] (fun i wr => ∃ m : Nat, 16 ≤ m ∧ m ≤ 64 ∧ i = .int .i64 m ∧ Hid (wr.heap[w.heap.size + 1]? = some (.cells (rowW (sched b (m - 16))) 93 (0, 0))) ∧ Hid (wr.heap[w.heap.size]? = some (.cells (rowW []) 93 (0, 0))) ∧ w.grownBy wr none) (fun i _ => 64 - (intOf i).toNat)
      case atStart => exact ⟨16, by omega, by omega, rfl, hq, hq0, hg⟩
      case round =>
        obtain ⟨m, hm0, hm1, rfl, hq, hq0, hg⟩ := hrel
        by_cases hlt : m < 64
        · have hlen : (sched b (m - 16)).length = m := by rw [sched_len]; omega
          have g1 : ∀ j, j < m → wr.cell? ⟨w.heap.size + 1, j, none⟩ = some (.int .u32 (((sched b (m - 16)).getD j 0).toNat : Int)) := fun j hj => by
            rw [cell_of_row wr _ _ _ _ _ hq.out]; exact rowW_get _ _ (by omega)
          have g15 := g1 (m - 15) (by omega)
          have g2 := g1 (m - 2) (by omega)
          have g16 := g1 (m - 16) (by omega)
          have g7 := g1 (m - 7) (by omega)
          have hcell : wr.cell? ⟨w.heap.size + 1, m, none⟩ = some (.int .u32 0) := by
            rw [cell_of_row wr _ _ _ _ _ hq.out]; exact rowW_zero _ _ (by omega) (by omega)
          have hfro : wr.frozen? ⟨w.heap.size + 1, m, none⟩ = false := frozen_of_row wr _ _ _ _ hq.out
          obtain ⟨x15, e15⟩ : ∃ x, x = (sched b (m - 16)).getD (m - 15) 0 := ⟨_, rfl⟩
          obtain ⟨x2, e2⟩ : ∃ x, x = (sched b (m - 16)).getD (m - 2) 0 := ⟨_, rfl⟩
          obtain ⟨x16, e16⟩ : ∃ x, x = (sched b (m - 16)).getD (m - 16) 0 := ⟨_, rfl⟩
          obtain ⟨x7, e7⟩ : ∃ x, x = (sched b (m - 16)).getD (m - 7) 0 := ⟨_, rfl⟩
          rw [← e15] at g15
          rw [← e2] at g2
          rw [← e16] at g16
          rw [← e7] at g7
          have E15 := Lib.hid e15
          have E2 := Lib.hid e2
          have E16 := Lib.hid e16
          have E7 := Lib.hid e7
          have HL := Lib.hid hlen
          clear e15 e2 e16 e7 hlen g1
          go_wp2
          go_quiet (fail)
          have r0 := bits_xor
          have r1 := fun x => (div_r x).1
          have r2 := fun x => (div_r x).2
          go_wp2_with (go_at_call 68; refine (Rot_m _ _ _ (by omega)).mono ?_; rintro e w' ⟨rfl, rfl⟩)
          clear r0 r1 r2
          obtain ⟨w3, hw3⟩ : ∃ w3, w3 = wr.drewN nq := ⟨_, rfl⟩
          replace g16 : w3.cell? ⟨w.heap.size + 1, m - 16, none⟩ = some (.int .u32 (x16.toNat : Int)) := by rw [hw3]; exact g16
          replace g7 : w3.cell? ⟨w.heap.size + 1, m - 7, none⟩ = some (.int .u32 (x7.toNat : Int)) := by rw [hw3]; exact g7
          replace hcell : w3.cell? ⟨w.heap.size + 1, m, none⟩ = some (.int .u32 0) := by rw [hw3]; exact hcell
          replace hfro : w3.frozen? ⟨w.heap.size + 1, m, none⟩ = false := by rw [hw3]; exact hfro
          replace hq : Hid (w3.heap[w.heap.size + 1]? = some (.cells (rowW (sched b (m - 16))) 93 (0, 0))) := by rw [hw3]; exact hq
          replace hq0 : Hid (w3.heap[w.heap.size]? = some (.cells (rowW []) 93 (0, 0))) := by rw [hw3]; exact hq0
          replace hg : w.grownBy w3 none := by rw [hw3]; exact grown_drewN hg nq
          rw [← hw3]
          clear hw3 g15 g2
          have r0 := wrap_add
          have f16 : IntKind.i64.wrap ((m : Int) - 16) = ((m - 16 : Nat) : Int) := by rw [IntWalk.i64_in _ ⟨by omega, by omega⟩]; omega
          have f7 : IntKind.i64.wrap ((m : Int) - 7) = ((m - 7 : Nat) : Int) := by rw [IntWalk.i64_in _ ⟨by omega, by omega⟩]; omega
          have b16 : ((m - 16 : Nat) : Int) < 64 := by omega
          have b7 : ((m - 7 : Nat) : Int) < 64 := by omega
          have bm : (m : Int) < 64 := by omega
          go_still_tail 15, (by kernel_rfl)
          clear r0 f16 f7
          change wpList _ _ _ _ _ w3.drew
          go_wp2
          go_roundw
          case rel =>
            refine ⟨m + 1, by omega, by omega, by go_num, ?_, ?_, grown_set (grown_drew hg) (.inr (by show _ ≤ w.heap.size + 1; omega)) _⟩
            · show _ = _
              have e : sched b (m + 1 - 16) = sched b (m - 16) ++ [nextW (sched b (m - 16))] := by
                rw [show m + 1 - 16 = (m - 16) + 1 by omega]; rfl
              rw [e]
              have e2 : nextW (sched b (m - 16)) = pW (pW (pW x16 (ssig0 x15)) x7) (ssig1 x2) := by
                unfold nextW
                rw [HL.out, E15.out, E2.out, E16.out, E7.out]
              rw [e2]
              exact rowW_store (w := w3.drew) hq.out HL.out (by omega)
            · show _ = _
              exact (Below.heap_setCell w3.drew ⟨w.heap.size + 1, m, none⟩ _ w.heap.size (by simp)).trans hq0.out
          case measure => simp [intOf]; omega
        · have hm64 : m = 64 := by omega
          subst hm64
          have hlen : (sched b 48).length = 64 := sched_len b 48
          have hqq : wr.heap[w.heap.size + 1]? = some (.cells ((sched b 48).map wv).toArray 93 (0, 0)) := by rw [← rowW_full hlen]; exact hq.out
          obtain ⟨X, hX⟩ : ∃ X, X = sched b 48 := ⟨_, rfl⟩
          rw [← hX] at hqq hlen
          have HX := Lib.hid hX
          have hsz : (Tryd.prog.info? 93).map (·.size) = some (X.map wv).toArray.size := by rw [List.size_toArray, List.length_map, hlen]; exact size_64
          have HS := Lib.hid hsz
          have HQ := Lib.hid hqq
          have HLL := Lib.hid hlen
          clear hX hqq hsz hlen
          go_wp2_with (first | (refine wpList_load_row rfl 93 _ rfl (w.heap.size + 1) rfl 93 _ (0, 0) _ HQ.out Tryd.underlying93 rfl HS.out ?_) | (refine wpList_store_row rfl 93 _ _ rfl w.heap.size (X.map wv).toArray rfl rfl 93 _ hq0.out HS.out (by rw [rowW_size _ (by simp), List.size_toArray, List.length_map, HLL.out]) (wv_all _) ?_))
          refine bodyPost_ret (results_cell_row rfl _ _ w.heap.size 93 (X.map wv).toArray (0, 0) _ rfl (setRow_heap _ _ _ _ _ _ hq0.out) Tryd.underlying93 rfl HS.out) rfl ?_
          exact ⟨by rw [HX.out], grown_setRow hg (.inr (Nat.le_refl _)) _⟩
end Go.Proofs.YtpeepiboocdnaaaDoor

namespace Go.Proofs.YtpeepiboocdnaaaDoor
open Go.RowKit

/-- The package's variables read as the text lays them. -/
def LaidK (w : World) : Prop := RdAt w (some ⟨1, 0, none⟩) (keysL.map wv)
def LaidS (w : World) : Prop := RdAt w (some ⟨0, 0, none⟩) (start.cells.map wv)
theorem LaidK.kept {w w' : World} (h : LaidK w) (hg : w.grownBy w' none) : LaidK w' := RdAt.kept h hg
theorem LaidS.kept {w w' : World} (h : LaidS w) (hg : w.grownBy w' none) : LaidS w' := RdAt.kept h hg
theorem add_zero_pos (g k : Nat) : (⟨g, 0, none⟩ : Addr).add k = ⟨g, k, none⟩ := by
  unfold Addr.add; split <;> simp_all
theorem LaidS.cells {w : World} (h : LaidS w) : ∀ j u, (start.cells.map wv)[j]? = some u → w.cell? ((⟨0, 0, none⟩ : Addr).add j) = some u := by
  rcases h with h | ⟨ad, e, hc⟩
  · cases h
  · cases e; exact hc
theorem LaidK.get {w : World} (h : LaidK w) {k : Nat} (hk : k < 64) : w.cell? ⟨1, k, none⟩ = some (.int .u32 ((keysL.getD k 0).toNat : Int)) := by
  have hk' : k < (keysL.map wv).length := hk
  obtain ⟨ad, e, hc⟩ := RdAt.get h (k := k) hk'
  cases e
  rw [add_zero_pos] at hc
  rw [hc, getD_at keysL k 0 hk, List.getElem_map]
  rfl

theorem size_st : (Tryd.prog.info? 85).map (·.size) = some 8 := by kernel_rfl
/-- A state as a value. -/
def stV (s : St) : Value := .agg #[.int .u32 (s.a.toNat : Int), .int .u32 (s.b.toNat : Int), .int .u32 (s.c.toNat : Int), .int .u32 (s.d.toNat : Int), .int .u32 (s.e.toNat : Int), .int .u32 (s.f.toNat : Int), .int .u32 (s.g.toNat : Int), .int .u32 (s.h.toNat : Int)]

set_option maxRecDepth 100000 in
set_option maxHeartbeats 2000000 in
theorem stir_any (s : St) (A : Option Addr) (b : List UInt8) (c : Nat) (w : World) (hk : LaidK w) (hr : RdB w A b) (hl : b.length = 64) (hc : 64 ≤ c) :
    Calls Tryd.prog 57 #[stV s, .slice A 64 c] w fun e w' => e = .returned (stV (stir s b)) ∧ w.grownBy w' none := by
  have hsp := fun w' (h : RdB w' A b) => spread_any A b c w' h hl hc
  obtain ⟨X, hX⟩ : ∃ X, X = sched b 48 := ⟨_, rfl⟩
  have hXl : X.length = 64 := by rw [hX]; exact sched_len b 48
  rw [← hX] at hsp
  have hst : stir s b = s.add (rounds X s 64) := by rw [hX]; rfl
  rw [hst]
  clear hst
  have HX := Lib.hid hX
  have HL := Lib.hid hXl
  clear hX hXl
  have hs64 : (Tryd.prog.info? 93).map (·.size) = some (X.map wv).toArray.size := by rw [List.size_toArray, List.length_map, HL.out]; exact size_64
  have HS := Lib.hid hs64
  clear hs64
  unfold stV
  go_enter Tryd.func57, Tryd.ntmps57
  go_wp2_with (first | (go_at_call 64; refine (hsp _ ((hr.alloc _).alloc _)).mono ?_; rintro e w1 ⟨rfl, hg1⟩) | ((refine wpList_store_row rfl 93 _ _ rfl w1.heap.size (X.map wv).toArray rfl rfl 93 _ (heap_alloc_new _ _) HS.out (by rw [show (X.map wv).toArray.size = 64 from by rw [List.size_toArray, List.length_map, HL.out]]; rfl) (wv_all _) ?_); generalize hw2 : World.setRow _ _ _ = w2; have HW2 := Lib.hid hw2; clear hw2))
  have hq0 : Hid (w2.heap[w.heap.size]? = some (.cells #[.int .u32 (s.a.toNat : Int), .int .u32 (s.b.toNat : Int), .int .u32 (s.c.toNat : Int), .int .u32 (s.d.toNat : Int), .int .u32 (s.e.toNat : Int), .int .u32 (s.f.toNat : Int), .int .u32 (s.g.toNat : Int), .int .u32 (s.h.toNat : Int)] 85 (0, 0))) := by
    show _ = _
    rw [← HW2.out, setRow_other _ _ _ _ (by have := hg1.size; simp at this; omega), Below.heap_alloc _ _ _ (by have := hg1.size; simp at this; omega), hg1.block _ (by simp; omega) (by simp)]
    exact heap_alloc_1 _ _ _
  have hq1 : Hid (w2.heap[w.heap.size + 1]? = some (.cells #[.int .u32 0, .int .u32 0, .int .u32 0, .int .u32 0, .int .u32 0, .int .u32 0, .int .u32 0, .int .u32 0] 85 (0, 0))) := by
    show _ = _
    rw [← HW2.out, setRow_other _ _ _ _ (by have := hg1.size; simp at this; omega), Below.heap_alloc _ _ _ (by have := hg1.size; simp at this; omega), hg1.block _ (by rw [show ((w.alloc _).alloc _).heap.size = w.heap.size + 2 from by simp]; omega) (by simp)]
    exact heap_alloc_2 _ _ _
  have hq2 : Hid (w2.heap[w1.heap.size]? = some (.cells (X.map wv).toArray 93 (0, 0))) := by
    show _ = _
    rw [← HW2.out]
    exact setRow_heap _ _ _ _ _ _ (heap_alloc_new _ _)
  have hg : w.grownBy w2 none := by
    rw [← HW2.out]
    exact grown_setRow (grown_alloc (grown_same (grown_alloc (grown_alloc (grown_refl _ _) _) _) hg1) _) (.inr (by have := hg1.size; simp at this; omega)) _
  have hm : Hid (w.heap.size + 2 ≤ w1.heap.size) := by have := hg1.size; simp at this; exact this
  clear HW2 hsp hg1
  have hc0 : ∀ j u, #[.int .u32 (s.a.toNat : Int), .int .u32 (s.b.toNat : Int), .int .u32 (s.c.toNat : Int), .int .u32 (s.d.toNat : Int), .int .u32 (s.e.toNat : Int), .int .u32 (s.f.toNat : Int), .int .u32 (s.g.toNat : Int), .int .u32 (s.h.toNat : Int)][j]? = some u → w2.cell? ⟨w.heap.size, j, none⟩ = some u := fun j u hu => by
    rw [cell_of_row w2 _ _ _ _ _ hq0.out]; exact hu
  have c0 := hc0 0 _ rfl
  have c1 := hc0 1 _ rfl
  have c2 := hc0 2 _ rfl
  have c3 := hc0 3 _ rfl
  have c4 := hc0 4 _ rfl
  have c5 := hc0 5 _ rfl
  have c6 := hc0 6 _ rfl
  have c7 := hc0 7 _ rfl
  clear hc0
  go_wp2
  go_quiet (fail)
  go_wp2
  go_loopw [6, 7, 8, 9, 10, 11, 12, 13, 35] (fun xa xb xc xd xe xf xg xh i wr => ∃ k : Nat, k ≤ 64 ∧ i = .int .i64 k ∧ xa = .int .u32 ((rounds X s k).a.toNat : Int) ∧ xb = .int .u32 ((rounds X s k).b.toNat : Int) ∧ xc = .int .u32 ((rounds X s k).c.toNat : Int) ∧ xd = .int .u32 ((rounds X s k).d.toNat : Int) ∧ xe = .int .u32 ((rounds X s k).e.toNat : Int) ∧ xf = .int .u32 ((rounds X s k).f.toNat : Int) ∧ xg = .int .u32 ((rounds X s k).g.toNat : Int) ∧ xh = .int .u32 ((rounds X s k).h.toNat : Int) ∧ w2.grownBy wr none) (fun _ _ _ _ _ _ _ _ i _ => 64 - (intOf i).toNat)
  case atStart => exact ⟨0, by omega, rfl, rfl, rfl, rfl, rfl, rfl, rfl, rfl, rfl, grown_drewN (grown_refl _ _) _⟩
  case round =>
    obtain ⟨k, hk64, rfl, rfl, rfl, rfl, rfl, rfl, rfl, rfl, rfl, hgr⟩ := hrel
    by_cases hlt : k < 64
    · have ck := LaidK.get ((hk.kept hg).kept hgr) hlt
      have cw : wr.cell? ⟨w1.heap.size, k, none⟩ = some (.int .u32 ((X.getD k 0).toNat : Int)) := by
        rw [grown_cell hgr (Array.getElem?_eq_some_iff.1 hq2.out).1 (by simp), cell_of_row w2 _ _ _ _ _ hq2.out, List.getElem?_toArray, List.getElem?_map, List.getElem?_eq_getElem (by rw [HL.out]; exact hlt), getD_at X k 0 (by rw [HL.out]; exact hlt)]
        rfl
      obtain ⟨K, hK⟩ : ∃ K, K = keysL.getD k 0 := ⟨_, rfl⟩
      obtain ⟨Y, hY⟩ : ∃ Y, Y = X.getD k 0 := ⟨_, rfl⟩
      obtain ⟨r, hr⟩ : ∃ r, r = rounds X s k := ⟨_, rfl⟩
      rw [← hK] at ck
      rw [← hY] at cw
      rw [← hr]
      have HK := Lib.hid hK
      have HY := Lib.hid hY
      have HR := Lib.hid hr
      clear hK hY hr
      have k64 : (k : Int) < 64 := by omega
      have r0 := bits_xor
      have r1 := bits_and
      have r2 := wrap_add
      have r3 := add_w
      have r4 := bits_not
      go_wp2
      go_quiet (first | (go_at_call 65; refine Calls.quiet_of_same (turned_m _ _ _ _ _ (by omega) (by omega) (by omega))))
      go_wp2_with (first | (go_at_call 65; refine (turned_m _ _ _ _ _ (by omega) (by omega) (by omega)).mono ?_; rintro e w' ⟨rfl, rfl⟩))
      go_roundw
      case rel => exact ⟨k + 1, by omega, by go_num, by rw [rounds, ← HK.out, ← HY.out, ← HR.out]; rfl, by rw [rounds, ← HK.out, ← HY.out, ← HR.out]; rfl, by rw [rounds, ← HK.out, ← HY.out, ← HR.out]; rfl, by rw [rounds, ← HK.out, ← HY.out, ← HR.out]; rfl, by rw [rounds, ← HK.out, ← HY.out, ← HR.out]; rfl, by rw [rounds, ← HK.out, ← HY.out, ← HR.out]; rfl, by rw [rounds, ← HK.out, ← HY.out, ← HR.out]; rfl, by rw [rounds, ← HK.out, ← HY.out, ← HR.out]; rfl, grown_drewN hgr _⟩
      case measure => simp [intOf]; omega
    · have hk64' : k = 64 := by omega
      subst hk64'
      obtain ⟨r, hr⟩ : ∃ r, r = rounds X s 64 := ⟨_, rfl⟩
      rw [← hr]
      have HR := Lib.hid hr
      clear hr
      rw [← grown_cell hgr (a := ⟨w.heap.size, 0, none⟩) (by have := (Array.getElem?_eq_some_iff.1 hq0.out).1; exact this) (by simp)] at c0
      rw [← grown_cell hgr (a := ⟨w.heap.size, 1, none⟩) (by have := (Array.getElem?_eq_some_iff.1 hq0.out).1; exact this) (by simp)] at c1
      rw [← grown_cell hgr (a := ⟨w.heap.size, 2, none⟩) (by have := (Array.getElem?_eq_some_iff.1 hq0.out).1; exact this) (by simp)] at c2
      rw [← grown_cell hgr (a := ⟨w.heap.size, 3, none⟩) (by have := (Array.getElem?_eq_some_iff.1 hq0.out).1; exact this) (by simp)] at c3
      rw [← grown_cell hgr (a := ⟨w.heap.size, 4, none⟩) (by have := (Array.getElem?_eq_some_iff.1 hq0.out).1; exact this) (by simp)] at c4
      rw [← grown_cell hgr (a := ⟨w.heap.size, 5, none⟩) (by have := (Array.getElem?_eq_some_iff.1 hq0.out).1; exact this) (by simp)] at c5
      rw [← grown_cell hgr (a := ⟨w.heap.size, 6, none⟩) (by have := (Array.getElem?_eq_some_iff.1 hq0.out).1; exact this) (by simp)] at c6
      rw [← grown_cell hgr (a := ⟨w.heap.size, 7, none⟩) (by have := (Array.getElem?_eq_some_iff.1 hq0.out).1; exact this) (by simp)] at c7
      have hq1' : Hid (wr.heap[w.heap.size + 1]? = some (.cells #[.int .u32 0, .int .u32 0, .int .u32 0, .int .u32 0, .int .u32 0, .int .u32 0, .int .u32 0, .int .u32 0] 85 (0, 0))) := by
        show _ = _
        rw [hgr.block _ (Array.getElem?_eq_some_iff.1 hq1.out).1 (by simp)]
        exact hq1.out
      have r2 := wrap_add
      have r3 := add_w
      go_wp2_with ((refine wpList_store_row rfl 85 _ _ rfl (w.heap.size + 1) #[Value.int .u32 ((pW s.a r.a).toNat : Int), Value.int .u32 ((pW s.b r.b).toNat : Int), Value.int .u32 ((pW s.c r.c).toNat : Int), Value.int .u32 ((pW s.d r.d).toNat : Int), Value.int .u32 ((pW s.e r.e).toNat : Int), Value.int .u32 ((pW s.f r.f).toNat : Int), Value.int .u32 ((pW s.g r.g).toNat : Int), Value.int .u32 ((pW s.h r.h).toNat : Int)] rfl rfl 85 _ hq1'.out size_st rfl (wv_all [pW s.a r.a, pW s.b r.b, pW s.c r.c, pW s.d r.d, pW s.e r.e, pW s.f r.f, pW s.g r.g, pW s.h r.h]) ?_))
      refine bodyPost_ret (results_cell_row rfl _ _ (w.heap.size + 1) 85 #[Value.int .u32 ((pW s.a r.a).toNat : Int), Value.int .u32 ((pW s.b r.b).toNat : Int), Value.int .u32 ((pW s.c r.c).toNat : Int), Value.int .u32 ((pW s.d r.d).toNat : Int), Value.int .u32 ((pW s.e r.e).toNat : Int), Value.int .u32 ((pW s.f r.f).toNat : Int), Value.int .u32 ((pW s.g r.g).toNat : Int), Value.int .u32 ((pW s.h r.h).toNat : Int)] (0, 0) _ rfl (setRow_heap _ _ _ _ _ _ hq1'.out) Tryd.underlying85 rfl size_st) rfl ?_
      exact ⟨by rw [HR.out]; rfl, grown_setRow (grown_same hg hgr) (.inr (by omega)) _⟩
end Go.Proofs.YtpeepiboocdnaaaDoor

namespace Go.Proofs.YtpeepiboocdnaaaDoor
open Go.RowKit

theorem outB_get (s : St) : ∀ k, k < 32 → (outB s).getD k 0 = UInt8.ofNat ((s.cells.getD (k / 4) 0).toNat / 2 ^ (24 - 8 * (k % 4)))
  | 0, _ => rfl
  | 1, _ => rfl
  | 2, _ => rfl
  | 3, _ => rfl
  | 4, _ => rfl
  | 5, _ => rfl
  | 6, _ => rfl
  | 7, _ => rfl
  | 8, _ => rfl
  | 9, _ => rfl
  | 10, _ => rfl
  | 11, _ => rfl
  | 12, _ => rfl
  | 13, _ => rfl
  | 14, _ => rfl
  | 15, _ => rfl
  | 16, _ => rfl
  | 17, _ => rfl
  | 18, _ => rfl
  | 19, _ => rfl
  | 20, _ => rfl
  | 21, _ => rfl
  | 22, _ => rfl
  | 23, _ => rfl
  | 24, _ => rfl
  | 25, _ => rfl
  | 26, _ => rfl
  | 27, _ => rfl
  | 28, _ => rfl
  | 29, _ => rfl
  | 30, _ => rfl
  | 31, _ => rfl
  | k + 32, h => absurd h (by omega)
/-- A row of 32 bytes of which so many are there. -/
def rowH (l : List UInt8) : Array Value := (l.map bv ++ List.replicate (32 - l.length) (Value.int .u8 0)).toArray
theorem rowH_next (l : List UInt8) (x : UInt8) (h : l.length < 32) : (rowH l).setIfInBounds l.length (bv x) = rowH (l ++ [x]) := by
  unfold rowH
  obtain ⟨k, hk⟩ : ∃ k, 32 - l.length = k + 1 := ⟨32 - l.length - 1, by omega⟩
  have hk' : 32 - (l ++ [x]).length = k := by simp; omega
  rw [hk, hk']
  apply Array.ext'
  simp [List.replicate_succ]
theorem rowH_zero (l : List UInt8) (j : Nat) (h : l.length ≤ j) (h' : j < 32) : (rowH l)[j]? = some (.int .u8 0) := by
  unfold rowH
  rw [List.getElem?_toArray, List.getElem?_append_right (by simpa using h), List.getElem?_replicate]
  simp; omega
theorem rowH_store {w : World} {g n : Nat} {l : List UInt8} {x : UInt8} {t : TypeId} (h : w.heap[g]? = some (.cells (rowH l) t (0, 0))) (hn : l.length = n) (hl : n < 32) :
    (w.setCell ⟨g, n, none⟩ (.int .u8 (x.toNat : Int))).heap[g]? = some (.cells (rowH (l ++ [x])) t (0, 0)) := by
  subst hn
  exact heap_setCell_to h (rowH_next l x hl)
theorem rowH_full {l : List UInt8} (h : l.length = 32) : rowH l = (l.map bv).toArray := by simp [rowH, h]
theorem rowH_size (l : List UInt8) (h : l.length ≤ 32) : (rowH l).size = 32 := by simp [rowH]; omega
theorem bv_all' (l : List UInt8) : (l.map bv).toArray.all (·.oneCell') = true := by
  rw [Array.all_eq_true_iff_forall_mem]
  intro v hv
  simp only [List.mem_toArray, List.mem_map] at hv
  obtain ⟨x, _, rfl⟩ := hv
  rfl
theorem heap_alloc_3 (w : World) (o1 o2 o3 : Obj) : (((w.alloc o1).alloc o2).alloc o3).heap[w.heap.size]? = some o1 ∧ (((w.alloc o1).alloc o2).alloc o3).heap[w.heap.size + 1]? = some o2 ∧ (((w.alloc o1).alloc o2).alloc o3).heap[w.heap.size + 2]? = some o3 := by
  refine ⟨(Below.heap_alloc _ o3 w.heap.size (by simp; omega)).trans (heap_alloc_1 w o1 o2), (Below.heap_alloc _ o3 (w.heap.size + 1) (by simp)).trans (heap_alloc_2 w o1 o2), ?_⟩
  have := heap_alloc_new ((w.alloc o1).alloc o2) o3
  rwa [show ((w.alloc o1).alloc o2).heap.size = w.heap.size + 2 from by simp] at this
theorem St.cells_get (s : St) : ∀ j, j < 8 → #[Value.int .u32 (s.a.toNat : Int), .int .u32 (s.b.toNat : Int), .int .u32 (s.c.toNat : Int), .int .u32 (s.d.toNat : Int), .int .u32 (s.e.toNat : Int), .int .u32 (s.f.toNat : Int), .int .u32 (s.g.toNat : Int), .int .u32 (s.h.toNat : Int)][j]? = some (.int .u32 ((s.cells.getD j 0).toNat : Int))
  | 0, _ => rfl
  | 1, _ => rfl
  | 2, _ => rfl
  | 3, _ => rfl
  | 4, _ => rfl
  | 5, _ => rfl
  | 6, _ => rfl
  | 7, _ => rfl
  | j + 8, h => absurd h (by omega)

set_option maxRecDepth 100000 in
set_option maxHeartbeats 1000000 in
theorem hashOf_any (s : St) (w : World) :
    Calls Tryd.prog 60 #[stV s] w fun e w' => e = .returned (.agg ((outB s).map bv).toArray) ∧ w.grownBy w' none := by
  unfold stV
  go_enter Tryd.func60, Tryd.ntmps60
  go_wp2
  go_loopw [5] (fun i wr => ∃ k : Nat, k ≤ 32 ∧ i = .int .i64 k ∧ Hid (wr.heap[w.heap.size]? = some (.cells #[Value.int .u32 (s.a.toNat : Int), .int .u32 (s.b.toNat : Int), .int .u32 (s.c.toNat : Int), .int .u32 (s.d.toNat : Int), .int .u32 (s.e.toNat : Int), .int .u32 (s.f.toNat : Int), .int .u32 (s.g.toNat : Int), .int .u32 (s.h.toNat : Int)] 85 (0, 0))) ∧ Hid (wr.heap[w.heap.size + 1]? = some (.cells (rowH []) 44 (0, 0))) ∧ Hid (wr.heap[w.heap.size + 2]? = some (.cells (rowH ((outB s).take k)) 44 (0, 0))) ∧ w.grownBy wr none) (fun i _ => 32 - (intOf i).toNat)
  case atStart => exact ⟨0, by omega, rfl, (heap_alloc_3 _ _ _ _).1, (heap_alloc_3 _ _ _ _).2.1, (heap_alloc_3 _ _ _ _).2.2, grown_alloc (grown_alloc (grown_alloc (grown_refl _ _) _) _) _⟩
  case round =>
    obtain ⟨k, hk, rfl, hq0, hq1, hq2, hg⟩ := hrel
    have hlen : Hid ((outB s).length = 32) := outB_len s
    by_cases hlt : k < 32
    · have hc : wr.cell? ⟨w.heap.size, k / 4, none⟩ = some (.int .u32 ((s.cells.getD (k / 4) 0).toNat : Int)) := by
        rw [cell_of_row wr _ _ _ _ _ hq0.out]; exact St.cells_get s _ (by omega)
      have hz : wr.cell? ⟨w.heap.size + 2, k, none⟩ = some (.int .u8 0) := by
        rw [cell_of_row wr _ _ _ _ _ hq2.out]; exact rowH_zero _ _ (by rw [List.length_take, hlen.out]; omega) hlt
      have hf : wr.frozen? ⟨w.heap.size + 2, k, none⟩ = false := frozen_of_row wr _ _ _ _ hq2.out
      obtain ⟨x, hx⟩ : ∃ x, x = s.cells.getD (k / 4) 0 := ⟨_, rfl⟩
      rw [← hx] at hc
      have HX := Lib.hid hx
      clear hx
      have hv : (x.toNat : Int) / 2 ^ (24 - 8 * (k % 4)) % 256 = (((outB s).getD k 0).toNat : Int) := by
        rw [outB_get s k hlt, ← HX.out, UInt8.toNat_ofNat']
        simp only [Int.natCast_emod, Int.natCast_ediv, Int.natCast_pow]
        rfl
      obtain ⟨y, hy⟩ : ∃ y, y = (outB s).getD k 0 := ⟨_, rfl⟩
      rw [← hy] at hv
      have HY := Lib.hid hy
      clear hy
      go_wp2
      go_roundw
      case rel =>
        refine ⟨k + 1, by omega, by go_num, ?_, ?_, ?_, grown_set hg (.inr (by show _ ≤ w.heap.size + 1 + 1; omega)) _⟩
        · show _ = _
          exact (Below.heap_setCell wr ⟨w.heap.size + 2, k, none⟩ _ w.heap.size (by simp)).trans hq0.out
        · show _ = _
          exact (Below.heap_setCell wr ⟨w.heap.size + 2, k, none⟩ _ (w.heap.size + 1) (by simp)).trans hq1.out
        · show _ = _
          rw [List.take_succ_eq_append_getElem (by rw [hlen.out]; exact hlt), ← getD_at _ _ 0, ← HY.out]
          exact rowH_store hq2.out (by rw [List.length_take, hlen.out]; omega) (by omega)
      case measure => simp [intOf]; omega
    · have hk32 : k = 32 := by omega
      subst hk32
      obtain ⟨X, hX⟩ : ∃ X, X = outB s := ⟨_, rfl⟩
      rw [← hX, List.take_of_length_le (by rw [hX, hlen.out]; omega)] at hq2
      have hXl : Hid (X.length = 32) := by rw [hX]; exact hlen
      have HX := Lib.hid hX
      have hqq := hq2.out
      rw [rowH_full hXl.out] at hqq
      have HQ := Lib.hid hqq
      have HS : Hid ((Tryd.prog.info? 44).map (·.size) = some (X.map bv).toArray.size) := by rw [List.size_toArray, List.length_map, hXl.out]; exact size_hash
      clear hX hqq
      go_wp2_with (first | (refine wpList_load_row rfl 44 _ rfl (w.heap.size + 2) rfl 44 _ (0, 0) _ HQ.out Tryd.underlying44 rfl HS.out ?_) | (refine wpList_store_row rfl 44 _ _ rfl (w.heap.size + 1) (X.map bv).toArray rfl rfl 44 _ hq1.out HS.out (by rw [rowH_size _ (by simp), List.size_toArray, List.length_map, hXl.out]) (bv_all' _) ?_))
      refine bodyPost_ret (results_cell_row rfl _ _ (w.heap.size + 1) 44 (X.map bv).toArray (0, 0) _ rfl (setRow_heap _ _ _ _ _ _ hq1.out) Tryd.underlying44 rfl HS.out) rfl ?_
      exact ⟨by rw [HX.out], grown_setRow hg (.inr (by omega)) _⟩

/-- How many blocks. -/
def blocksN (n : Nat) : Nat := (n + 8) / 64 + 1
set_option maxHeartbeats 400000 in
theorem Blocks_any (n : Nat) (w : World) (hn : n ≤ 1000000000000) :
    Calls Tryd.prog 58 #[.int .i64 (n : Int)] w fun e w' => e = .returned (.int .i64 (blocksN n : Int)) ∧ w' = w := by
  unfold blocksN
  go_enter Tryd.func58, Tryd.ntmps58
  by_cases h : n % 64 + 1 + 8 > 64
  · go_wp2
    go_ret
    exact ⟨ret_w (by omega), rfl⟩
  · go_wp2
    go_ret
    exact ⟨ret_w (by omega), rfl⟩
theorem Blocks_i (m : Int) (w : World) (h : 0 ≤ m ∧ m ≤ 1000000000000) :
    Calls Tryd.prog 58 #[.int .i64 m] w fun e w' => e = .returned (.int .i64 ((m + 8) / 64 + 1)) ∧ w' = w := by
  obtain ⟨n, rfl⟩ : ∃ n : Nat, m = n := ⟨m.toNat, by omega⟩
  refine (Blocks_any n w (by omega)).mono ?_
  rintro e w' ⟨rfl, rfl⟩
  exact ⟨ret_w (by unfold blocksN; omega), rfl⟩
end Go.Proofs.YtpeepiboocdnaaaDoor

namespace Go.Proofs.YtpeepiboocdnaaaDoor
open Go.RowKit

theorem set_mid {α : Type} (A B : List α) (m v : α) (n : Nat) (h : A.length = n) : (A ++ m :: B).set n v = A ++ v :: B := by
  subst h; simp
theorem put_back (pre mid t post : List Value) (v : Value) (k : Nat) (h : k < mid.length) :
    ((pre ++ (mid.take (k + 1) ++ t) ++ post).toArray).setIfInBounds (pre.length + k) v = (pre ++ (mid.take k ++ v :: t) ++ post).toArray := by
  apply Array.ext'
  rw [Array.toList_setIfInBounds]
  have e : pre ++ (mid.take (k + 1) ++ t) ++ post = (pre ++ mid.take k) ++ mid[k] :: (t ++ post) := by
    rw [List.take_succ_eq_append_getElem h]; simp only [List.append_assoc, List.cons_append, List.nil_append]
  simp only [e]
  rw [set_mid _ _ _ _ _ (by rw [List.length_append, List.length_take]; omega)]
  simp
theorem get_back (pre mid t post : List Value) (k : Nat) (h : k < mid.length) : (pre ++ (mid.take (k + 1) ++ t) ++ post).toArray[pre.length + k]? = some mid[k] := by
  have e : pre ++ (mid.take (k + 1) ++ t) ++ post = (pre ++ mid.take k) ++ mid[k] :: (t ++ post) := by
    rw [List.take_succ_eq_append_getElem h]; simp only [List.append_assoc, List.cons_append, List.nil_append]
  rw [e, List.getElem?_toArray, List.getElem?_append_right (by rw [List.length_append, List.length_take]; omega)]
  have : pre.length + k - (pre ++ mid.take k).length = 0 := by rw [List.length_append, List.length_take]; omega
  rw [this]; rfl
theorem lenB_len (n : Nat) : (lenB n).length = 8 := by simp [lenB]
theorem lenB_drop (n k : Nat) (h : k < 8) : ((lenB n).map bv).drop k = bv (UInt8.ofNat (8 * n / 2 ^ (8 * (7 - k)))) :: ((lenB n).map bv).drop (k + 1) := by
  rw [List.drop_eq_getElem_cons (by simp [lenB_len]; exact h)]
  simp [lenB]
theorem len_val (n i : Nat) : ((n : Int) * 8) / 2 ^ (8 * i) % 256 = ((UInt8.ofNat (8 * n / 2 ^ (8 * i))).toNat : Int) := by
  rw [UInt8.toNat_ofNat', Nat.mul_comm 8 n]
  simp only [Int.natCast_emod, Int.natCast_ediv, Int.natCast_pow, Int.natCast_mul]
  rfl

set_option maxRecDepth 100000 in
set_option maxHeartbeats 1000000 in
theorem putLength_any (g L c n : Nat) (pre mid post : List Value) (t : TypeId) (w : World) (hL : L = pre.length + 8) (hm : mid.length = 8) (hq : w.heap[g]? = some (.cells (pre ++ mid ++ post).toArray t (0, 0))) (hn : n ≤ 1000000000000) (hL2 : L ≤ 1000000) :
    Calls Tryd.prog 59 #[.slice (some ⟨g, 0, none⟩) L c, .int .i64 (n : Int)] w fun e w' => e = .returned (.tuple #[]) ∧ w'.heap[g]? = some (.cells (pre ++ (lenB n).map bv ++ post).toArray t (0, 0)) ∧ w.grownBy w' (some g) := by
  have HL := Lib.hid hL
  have HM := Lib.hid hm
  have hq0 : Hid (w.heap[g]? = some (.cells (pre ++ (mid.take (8 - 0) ++ ((lenB n).map bv).drop (8 - 0)) ++ post).toArray t (0, 0))) := by
    show _ = _
    rw [hq, List.take_of_length_le (by omega), List.drop_of_length_le (by simp [lenB_len])]
    simp
  have L8 : 8 ≤ L := by omega
  clear hL hm hq
  go_enter Tryd.func59, Tryd.ntmps59
  go_wp2
  go_loopw [9] (fun i wr => ∃ k : Nat, k ≤ 8 ∧ i = .int .i64 k ∧ Hid (wr.heap[g]? = some (.cells (pre ++ (mid.take (8 - k) ++ ((lenB n).map bv).drop (8 - k)) ++ post).toArray t (0, 0))) ∧ w.grownBy wr (some g)) (fun i _ => 8 - (intOf i).toNat)
  case atStart => exact ⟨0, by omega, rfl, hq0, grown_refl _ _⟩
  case round =>
    obtain ⟨k, hk, rfl, hq, hg⟩ := hrel
    by_cases hlt : k < 8
    · obtain ⟨m, hmm⟩ : ∃ m, m = 7 - k := ⟨_, rfl⟩
      have hqq := hq.out
      rw [show 8 - k = m + 1 by omega] at hqq
      obtain ⟨u, hc⟩ : ∃ u, wr.cell? ⟨g, L - 1 - k, none⟩ = some u := by
        refine ⟨mid[m]'(by rw [HM.out]; omega), ?_⟩
        rw [cell_of_row wr _ _ _ _ _ hqq, show L - 1 - k = pre.length + m by have := HL.out; omega]
        exact get_back _ _ _ _ _ (by rw [HM.out]; omega)
      have hf : wr.frozen? ⟨g, L - 1 - k, none⟩ = false := frozen_of_row wr _ _ _ _ hqq
      have hv := len_val n k
      obtain ⟨y, hy⟩ : ∃ y, y = UInt8.ofNat (8 * n / 2 ^ (8 * k)) := ⟨_, rfl⟩
      rw [← hy] at hv
      have HY := Lib.hid hy
      have HQ := Lib.hid hqq
      have HMM := Lib.hid hmm
      clear hy hqq hmm
      go_wp2
      go_roundw
      case rel =>
        refine ⟨k + 1, by omega, by go_num, ?_, grown_set hg (.inl rfl) _⟩
        show _ = _
        refine heap_setCell_to HQ.out ?_
        have e1 : L - 1 - k = pre.length + m := by have := HL.out; have := HMM.out; omega
        have e2 : 8 - (k + 1) = m := by have := HMM.out; omega
        have e3 : bv (UInt8.ofNat (8 * n / 2 ^ (8 * (7 - m)))) = .int .u8 (y.toNat : Int) := by
          rw [HY.out, show 7 - m = k by have := HMM.out; omega]; rfl
        rw [e1, e2, put_back _ _ _ _ _ _ (by rw [HM.out]; have := HMM.out; omega), lenB_drop n m (by have := HMM.out; omega), e3]
      case measure => simp [intOf]; omega
    · have hk8 : k = 8 := by omega
      subst hk8
      have hqq := hq.out
      rw [Nat.sub_self, List.take_zero, List.drop_zero, List.nil_append] at hqq
      have HQ := Lib.hid hqq
      clear hqq
      go_wp2
      go_end0
      exact ⟨rfl, HQ.out, hg⟩
end Go.Proofs.YtpeepiboocdnaaaDoor

namespace Go.Proofs.YtpeepiboocdnaaaDoor
open Go.RowKit

theorem padL_len (n : Nat) : (padL n).length = 64 * blocksN n - n := by
  simp [padL, lenB_len, blocksN]; omega
theorem stirs_last (s : St) (l : List UInt8) (n : Nat) : stirs s l (n + 1) = stir (stirs s l n) ((l.drop (64 * n)).take 64) := rfl
/-- The block of a text that lies before its end. -/
theorem block_in (l p : List UInt8) (k : Nat) (h : 64 * k + 64 ≤ l.length) : ((l ++ p).drop (64 * k)).take 64 = (l.drop (64 * k)).take 64 := by
  rw [List.drop_append_of_le_length (by omega), List.take_append_of_le_length (by rw [List.length_drop]; omega)]
theorem block_end (l p : List UInt8) (k : Nat) (h : 64 * k ≤ l.length) : (l ++ p).drop (64 * k) = l.drop (64 * k) ++ p := List.drop_append_of_le_length h

theorem stirs_app (s : St) (l p : List UInt8) : ∀ k, 64 * k ≤ l.length → stirs s (l ++ p) k = stirs s l k
  | 0, _ => rfl
  | k + 1, h => by rw [stirs_last, stirs_last, stirs_app s l p k (by omega), block_in l p k (by omega)]
theorem rd_block {w : World} {g : Nat} {E : List UInt8} {post : List Value} {t : TypeId} {fr : Nat × Nat} (h : w.heap[g]? = some (.cells (E.map bv ++ post).toArray t fr)) (j : Nat) (hj : 64 * j + 64 ≤ E.length) :
    RdB w (some ⟨g, 64 * j, none⟩) ((E.drop (64 * j)).take 64) := by
  have h1 := ((rd_row h).drop (64 * j)).take 64
  rw [Option.map_some, add_zero_pos, List.drop_append_of_le_length (by rw [List.length_map]; omega), List.take_append_of_le_length (by rw [List.length_drop, List.length_map]; omega), ← List.map_drop, ← List.map_take] at h1
  exact h1
theorem zeros_u8 (n : Nat) : (List.replicate n (0 : UInt8)).map bv = List.replicate n (Value.int .u8 0) := by simp [bv]
/-- What stands in the room: the rest, its end, and what is left of the room. -/
theorem room_end (r : List UInt8) (N : Nat) (hN : N % 64 = r.length) :
    r.map bv ++ bv 0x80 :: (List.replicate (64 * blocksN r.length - 9 - r.length) (Value.int .u8 0)) ++ (lenB N).map bv ++ List.replicate (128 - 64 * blocksN r.length) (Value.int .u8 0)
      = (r ++ padL N).map bv ++ List.replicate (128 - 64 * blocksN r.length) (Value.int .u8 0) := by
  have e : 64 * ((N + 8) / 64 + 1) - N - 9 = 64 * blocksN r.length - 9 - r.length := by unfold blocksN; omega
  rw [padL, e]
  simp only [List.map_append, List.map_cons, zeros_u8, List.append_assoc, List.cons_append]
theorem room_parts (r : List UInt8) (hr : r.length < 64) :
    r.map bv ++ bv 0x80 :: List.replicate (127 - r.length) (Value.int .u8 0)
      = (r.map bv ++ bv 0x80 :: (List.replicate (64 * blocksN r.length - 9 - r.length) (Value.int .u8 0))) ++ List.replicate 8 (Value.int .u8 0) ++ List.replicate (128 - 64 * blocksN r.length) (Value.int .u8 0) := by
  have e : 127 - r.length = (64 * blocksN r.length - 9 - r.length) + (8 + (128 - 64 * blocksN r.length)) := by unfold blocksN; omega
  rw [e, ← List.replicate_append_replicate, ← List.replicate_append_replicate]
  simp only [List.append_assoc, List.cons_append]
theorem zero128 (w : World) : (zeroValue 87).run Tryd.prog w = .ok (.agg (List.replicate 128 (Value.int .u8 0)).toArray) w := by kernel_rfl

theorem room_copied (r : List UInt8) : splice (List.replicate 128 (Value.int .u8 0)) 0 (r.map bv) = r.map bv ++ List.replicate (128 - r.length) (Value.int .u8 0) := by
  unfold splice
  rw [List.take_zero, List.nil_append, List.length_map, Nat.zero_add, List.drop_replicate]
theorem room_cell {w : World} {g n : Nat} {r : List UInt8} {t : TypeId} (hq : w.heap[g]? = some (.cells (splice (List.replicate 128 (Value.int .u8 0)) 0 (r.map bv)).toArray t (0, 0))) (hn : r.length = n) (h : n < 64) :
    w.cell? ⟨g, n, none⟩ = some (.int .u8 0) ∧ w.frozen? ⟨g, n, none⟩ = false := by
  refine ⟨?_, frozen_of_row w _ _ _ _ hq⟩
  rw [cell_of_row w _ _ _ _ _ hq, room_copied, List.getElem?_toArray, List.getElem?_append_right (by rw [List.length_map]; omega), List.getElem?_replicate]
  rw [if_pos (by rw [List.length_map]; omega)]
theorem room_marked {w : World} {g n nb : Nat} {r : List UInt8} {t : TypeId} (hq : w.heap[g]? = some (.cells (splice (List.replicate 128 (Value.int .u8 0)) 0 (r.map bv)).toArray t (0, 0))) (hn : r.length = n) (h : n < 64) (hnb : nb = blocksN n) :
    (w.setCell ⟨g, n, none⟩ (.int .u8 128)).heap[g]? = some (.cells ((r.map bv ++ bv 0x80 :: List.replicate (64 * nb - 9 - n) (Value.int .u8 0)) ++ List.replicate 8 (Value.int .u8 0) ++ List.replicate (128 - 64 * nb) (Value.int .u8 0)).toArray t (0, 0)) := by
  subst hn hnb
  refine heap_setCell_to hq ?_
  rw [room_copied, ← room_parts r h, show 128 - r.length = (127 - r.length) + 1 by omega, List.replicate_succ]
  apply Array.ext'
  rw [Array.toList_setIfInBounds]
  exact set_mid _ _ _ _ _ (by rw [List.length_map])
theorem size_u8 : (Tryd.prog.info? 5).map (·.size) = some 1 := by kernel_rfl

def lenOf : Value → Nat
  | .slice _ n _ => n
  | _ => 0
theorem wpStill_load {P : Program} {ops : Array Oper} {w : World} {Q : Act → Prop} {a : Act} {o : Oper} {rest : List Oper} (hgd : o.guard = none) (ty : TypeId) (x : Operand) (ho : o.op = .load ty x) {ad : Addr} {v : Value}
    (hx : a.eval x = .pointer (some ad)) (hr : (loadVar ty ad).run P w = .ok v w) (h : wpStill P ops w Q rest (a.put o.dst v)) : wpStill P ops w Q (o :: rest) a := by
  unfold wpStill
  have hw : Region.wanted o (yielded ops a.tmps) = true := by simp [Region.wanted, hgd]
  rw [if_pos hw]
  unfold Oper.still execOp
  simp only [ho, hx, Instr.loadAt, Instr.sureAddr, Sem.run_bind, Sem.run_pure, Result.andThen_ok, hr]
  exact ⟨rfl, h⟩
theorem load_st (w : World) (g : Nat) (s : St) (t : TypeId) (fr : Nat × Nat) (hg : w.heap[g]? = some (.cells (s.cells.map wv).toArray t fr)) :
    (loadVar 85 ⟨g, 0, none⟩).run Tryd.prog w = .ok (stV s) w :=
  run_loadVar_row (P := Tryd.prog) w g t 85 (s.cells.map wv).toArray fr _ hg Tryd.underlying85 rfl size_st

set_option maxRecDepth 100000 in
set_option maxHeartbeats 2000000 in
theorem Sum_any (A : Option Addr) (l : List UInt8) (c : Nat) (w : World) (hk : LaidK w) (hs : LaidS w) (hr : RdB w A l) (hc : l.length ≤ c) (hm : c ≤ maxLen) (hb : l.length ≤ 1000000000) :
    Calls Tryd.prog 52 #[.slice A l.length c] w fun e w' => e = .returned (.agg ((sumL l).map bv).toArray) ∧ w.grownBy w' none := by
  go_enter Tryd.func52, Tryd.ntmps52
  go_wp2_with (first
    | (refine wpList_load_agg rfl 85 _ rfl ⟨0, 0, none⟩ rfl (start.cells.map wv) _ (hs.kept (grown_alloc (grown_refl _ _) _)).cells Tryd.underlying85 rfl size_st ?_)
    | (refine wpList_store_row rfl 85 _ _ rfl (w.heap.size + 1) _ rfl rfl 85 _ (heap_alloc_2 _ _ _) size_st rfl (wv_all start.cells) ?_; generalize hw2 : World.setRow _ _ _ = w2; have HW2 := Lib.hid hw2; clear hw2))
  have hq0 : Hid (w2.heap[w.heap.size]? = some (.cells (rowH []) 44 (0, 0))) := by
    show _ = _
    rw [← HW2.out, setRow_other _ _ _ _ (by omega)]
    exact heap_alloc_1 _ _ _
  have hq1 : Hid (w2.heap[w.heap.size + 1]? = some (.cells ((stirs start l 0).cells.map wv).toArray 85 (0, 0))) := by
    show _ = _
    rw [← HW2.out]
    exact setRow_heap _ _ _ _ _ _ (heap_alloc_2 _ _ _)
  have hg2 : w.grownBy w2 none := by
    rw [← HW2.out]
    exact grown_setRow (grown_alloc (grown_alloc (grown_refl _ _) _) _) (.inr (by omega)) _
  clear HW2
  go_loopw [4] (fun x wr => ∃ (k n : Nat) (A' : Option Addr) (c' : Nat), 64 * k + n = l.length ∧ x = .slice A' n c' ∧ n ≤ c' ∧ c' ≤ maxLen ∧ RdB w A' (l.drop (64 * k)) ∧ Hid (wr.heap[w.heap.size]? = some (.cells (rowH []) 44 (0, 0))) ∧ Hid (wr.heap[w.heap.size + 1]? = some (.cells ((stirs start l k).cells.map wv).toArray 85 (0, 0))) ∧ w.grownBy wr none) (fun x _ => lenOf x)
  case atStart => exact ⟨0, l.length, A, c, by omega, rfl, hc, hm, by simpa using hr, hq0, hq1, hg2⟩
  case round =>
    clear hq0 hq1 hg2
    obtain ⟨k, n, A', c', hkn, rfl, hnc, hcm, hr', hq0, hq1, hg⟩ := hrel
    by_cases hlt : 64 ≤ n
    · have hst := fun w' (h1 : LaidK w') (h2 : RdB w' A' ((l.drop (64 * k)).take 64)) => stir_any (stirs start l k) A' ((l.drop (64 * k)).take 64) c' w' h1 h2 (by rw [List.length_take, List.length_drop]; omega) (by omega)
      obtain ⟨S, hS⟩ : ∃ S, S = stirs start l k := ⟨_, rfl⟩
      obtain ⟨T, hT⟩ : ∃ T, T = stir S ((l.drop (64 * k)).take 64) := ⟨_, rfl⟩
      rw [← hS, ← hT] at hst
      rw [← hS] at hq1
      have HT : Hid (T = stirs start l (k + 1)) := by show _ = _; rw [hT, hS]; rfl
      clear hT hS
      go_wp2
      have hq0' : Hid (wr.drew.heap[w.heap.size]? = some (.cells (rowH []) 44 (0, 0))) := hq0
      have hq1' : Hid (wr.drew.heap[w.heap.size + 1]? = some (.cells (S.cells.map wv).toArray 85 (0, 0))) := hq1
      have hg' : w.grownBy wr.drew none := grown_drew hg
      have hd := load_st wr.drew (w.heap.size + 1) S _ _ hq1
      refine wp_region_still_tail 3 (by kernel_rfl) (by kernel_rfl) ?_
      change wpStill _ _ wr.drew (fun a' => wpList _ _ _ _ a' wr.drew) _ _
      generalize wr.drew = w4 at hq0' hq1' hg' hd ⊢
      simp only [List.take_succ_cons, List.take_zero, List.drop_succ_cons, List.drop_zero]
      have i1 : (64 : Int) ≤ (c' : Int) := by omega
      have i2 : 64 ≤ c' := by omega
      refine wpStill_load rfl _ _ rfl rfl hd ?_
      repeat still_step
      refine wpStill_nil ?_
      go_wp2_with (first
        | (go_at_call 57; refine (hst _ (hk.kept hg') (rd_takeB (hr'.kept hg') 64)).mono ?_; rintro e w5 ⟨rfl, hg5⟩)
        | (refine wpList_store_row rfl 85 _ _ rfl (w.heap.size + 1) (T.cells.map wv).toArray rfl rfl 85 (S.cells.map wv).toArray ((hg5.block _ (Array.getElem?_eq_some_iff.1 hq1'.out).1 (by simp)).trans hq1'.out) size_st rfl (wv_all _) ?_; generalize hw6 : World.setRow _ _ _ = w6; have HW6 := Lib.hid hw6; clear hw6))
      have hg6 : w.grownBy w6 none := by
        rw [← HW6.out]
        exact grown_setRow (grown_same hg' hg5) (.inr (by omega)) _
      have hq06 : Hid (w6.heap[w.heap.size]? = some (.cells (rowH []) 44 (0, 0))) := by
        show _ = _
        rw [← HW6.out, setRow_other _ _ _ _ (by omega), hg5.block _ (Array.getElem?_eq_some_iff.1 hq0'.out).1 (by simp)]
        exact hq0'.out
      have hq16 : Hid (w6.heap[w.heap.size + 1]? = some (.cells ((stirs start l (k + 1)).cells.map wv).toArray 85 (0, 0))) := by
        show _ = _
        rw [← HW6.out, ← HT.out]
        exact setRow_heap _ _ _ _ _ _ ((hg5.block _ (Array.getElem?_eq_some_iff.1 hq1'.out).1 (by simp)).trans hq1'.out)
      refine ⟨⟨k + 1, n - 64, _, c' - 64, by omega, rfl, by omega, by omega, ?_, hq06, hq16, hg6⟩, by show n - 64 < n; omega⟩
      have := RdAt.cut hr' (k := 64) (c := c') (by rw [List.length_map, List.length_drop]; omega)
      rw [← List.map_drop, List.drop_drop, show 64 * k + 64 = 64 * (k + 1) by omega] at this
      exact this
    · obtain ⟨r, hrr⟩ : ∃ r, r = l.drop (64 * k) := ⟨_, rfl⟩
      have hrl : r.length = n := by rw [hrr, List.length_drop]; omega
      rw [← hrr] at hr'
      have HRR := Lib.hid hrr
      have HRL := Lib.hid hrl
      have hb2 : blocksN n = 1 ∨ blocksN n = 2 := by unfold blocksN; omega
      obtain ⟨nb, hnb⟩ : ∃ nb, nb = blocksN n := ⟨_, rfl⟩
      have hBl := fun w' => Blocks_any n w' (by omega)
      rw [← hnb] at hBl hb2
      have HNB := Lib.hid hnb
      have hnb1 : 1 ≤ nb := by omega
      have hnb2 : nb ≤ 2 := by omega
      clear hrr hrl hnb
      have hz := zero128
      have i3 : (64 : Int) * (nb : Int) ≤ 128 := by omega
      have i4 : (0 : Int) ≤ 64 * (nb : Int) := by omega
      have hpos : ∀ o : Obj, 0 < (r.map bv).length → ∃ ad, A' = some ad ∧ ∀ j v, (r.map bv)[j]? = some v → (wr.alloc o).cell? (ad.add j) = some v := by
        intro o h
        rcases (hr'.kept hg).alloc o with e | ⟨ad, e, hc⟩
        · rw [e] at h; simp at h
        · exact ⟨ad, e, hc⟩
      have HP := Lib.hid hpos
      clear hpos
      go_wp2_with (first
        | (go_at_call 58; refine (hBl _).mono ?_; rintro e w' ⟨rfl, rfl⟩)
        | (go_at_call 59; refine (putLength_any wr.heap.size (64 * nb) 128 l.length (r.map bv ++ bv 0x80 :: List.replicate (64 * nb - 9 - n) (Value.int .u8 0)) (List.replicate 8 (Value.int .u8 0)) (List.replicate (128 - 64 * nb) (Value.int .u8 0)) 87 _ (by rw [List.length_append, List.length_cons, List.length_map, List.length_replicate, HRL.out, HNB.out]; unfold blocksN; omega) (by rw [List.length_replicate]) (room_marked hq8.out HRL.out (by omega) HNB.out) (by omega) (by omega)).mono ?_; rintro e w9 ⟨rfl, hq9, hg9⟩; have HQ9 := Lib.hid hq9; clear hq9)
        | ((refine wpList_copy_splice rfl _ _ 61 61 rfl 5 Tryd.underlying61 size_u8 (some ⟨wr.heap.size, 0, none⟩) A' (64 * nb) 128 n c' rfl rfl wr.heap.size 0 (List.replicate 128 (Value.int .u8 0)) 87 (heap_alloc_new _ _) (r.map bv) (by rw [List.length_map, HRL.out]; exact (Nat.min_eq_left (by omega)).symm) (fun h => ⟨rfl, HP.out _ h⟩) (by rw [List.length_map, List.length_replicate, HRL.out]; omega) (bv_one r) wr.heap.size wr (grown_below (grown_alloc (grown_refl _ _) _)) (Nat.le_refl _) ?_); intro w8 hq8 hb8; obtain ⟨hc8, hf8⟩ := room_cell hq8.out HRL.out (by omega)))
      have hsz0 : Hid (w.heap.size + 2 ≤ wr.heap.size) := by
        show _ ≤ _
        have := (Array.getElem?_eq_some_iff.1 hq1.out).1
        omega
      have hg8 : w.grownBy (w8.setCell ⟨wr.heap.size, n, none⟩ (.int .u8 128)) none := grown_same hg (grown_set (grown_of_below hb8) (.inr (Nat.le_refl _)) _)
      have hgg : w.grownBy w9 none := grown_trans hg8 hg9 (.inr fun g e => by injection e with e; have := hg.size; omega)
      have hold : ∀ b, b < wr.heap.size → w9.heap[b]? = wr.heap[b]? := fun b hb => by
        rw [hg9.block b (by have h1 := hb8.size; have h2 : (w8.setCell ⟨wr.heap.size, n, none⟩ (.int .u8 128)).heap.size = w8.heap.size := by simp [World.setCell]
                            omega) (by intro e; injection e with e; omega), Below.heap_setCell _ _ _ _ (by show b ≠ wr.heap.size; omega)]
        exact hb8.block b hb
      have hq0' : Hid (w9.heap[w.heap.size]? = some (.cells (rowH []) 44 (0, 0))) := by
        show _ = _
        rw [hold _ (by have := hsz0.out; omega)]; exact hq0.out
      obtain ⟨E, hE⟩ : ∃ E, E = r ++ padL l.length := ⟨_, rfl⟩
      obtain ⟨F, hF⟩ : ∃ F, F = l ++ padL l.length := ⟨_, rfl⟩
      have hEl : Hid (E.length = 64 * nb) := by
        show _ = _
        rw [hE, List.length_append, padL_len, HRL.out, HNB.out]; unfold blocksN; omega
      have hFE : Hid (∀ j, F.drop (64 * (k + j)) = E.drop (64 * j)) := by
        intro j
        rw [hF, hE, show 64 * (k + j) = 64 * k + 64 * j by omega, ← List.drop_drop, block_end _ _ _ (by omega), ← HRR.out]
      have hKB : Hid (k + nb = blocksN l.length) := by show _ = _; rw [HNB.out]; unfold blocksN; omega
      have hsum : Hid (sumL l = outB (stirs start F (blocksN l.length))) := by show _ = _; rw [hF]; rfl
      have hqE : Hid (w9.heap[wr.heap.size]? = some (.cells (E.map bv ++ List.replicate (128 - 64 * nb) (Value.int .u8 0)).toArray 87 (0, 0))) := by
        show _ = _
        rw [HQ9.out, hE]
        have h1 := room_end r l.length (by rw [HRL.out]; omega)
        rw [HRL.out, ← HNB.out] at h1
        rw [h1]
      have hq1' : Hid (w9.heap[w.heap.size + 1]? = some (.cells ((stirs start F (k + 0)).cells.map wv).toArray 85 (0, 0))) := by
        show _ = _
        rw [hold _ (by have := hsz0.out; omega), hF, Nat.add_zero, stirs_app _ _ _ _ (by omega)]; exact hq1.out
      clear hE hF hb8 hc8 hf8 hg9 hg8 hold
      clear hq8 HQ9 HP
      generalize hg3 : wr.heap.size = g3 at hsz0 hqE ⊢
      clear hg3
      go_loopw [6] (fun x wz => ∃ (j m : Nat) (A2 : Option Addr) (c2 : Nat), j + m = nb ∧ x = .slice A2 (64 * m) c2 ∧ 64 * m ≤ c2 ∧ c2 ≤ maxLen ∧ (0 < m → A2 = some ⟨g3, 64 * j, none⟩) ∧ Hid (wz.heap[w.heap.size]? = some (.cells (rowH []) 44 (0, 0))) ∧ Hid (wz.heap[w.heap.size + 1]? = some (.cells ((stirs start F (k + j)).cells.map wv).toArray 85 (0, 0))) ∧ Hid (wz.heap[g3]? = some (.cells (E.map bv ++ List.replicate (128 - 64 * nb) (Value.int .u8 0)).toArray 87 (0, 0))) ∧ w.grownBy wz none) (fun x _ => lenOf x)
      case atStart => exact ⟨0, nb, _, 128, by omega, rfl, by omega, by unfold maxLen; omega, fun _ => rfl, hq0', hq1', hqE, hgg⟩
      case round =>
        clear hq0' hq1' hqE hgg
        obtain ⟨j, m, A2, c2, hjm, rfl, hmc, hcm2, hA2, hq0, hq1, hqE, hg⟩ := hrel
        by_cases hlt : 0 < m
        · obtain rfl := hA2 hlt
          have hst := fun w' (h1 : LaidK w') (h2 : RdB w' (some ⟨g3, 64 * j, none⟩) ((E.drop (64 * j)).take 64)) => stir_any (stirs start F (k + j)) (some ⟨g3, 64 * j, none⟩) ((E.drop (64 * j)).take 64) c2 w' h1 h2 (by rw [List.length_take, List.length_drop, hEl.out]; omega) (by omega)
          obtain ⟨S, hS⟩ : ∃ S, S = stirs start F (k + j) := ⟨_, rfl⟩
          obtain ⟨T, hT⟩ : ∃ T, T = stir S ((E.drop (64 * j)).take 64) := ⟨_, rfl⟩
          rw [← hS, ← hT] at hst
          rw [← hS] at hq1
          have HT : Hid (T = stirs start F (k + (j + 1))) := by
            show _ = _
            rw [hT, hS, ← hFE.out j, show k + (j + 1) = (k + j) + 1 by omega]; rfl
          clear hT hS
          go_wp2
          have hq0' : Hid (wr.drew.heap[w.heap.size]? = some (.cells (rowH []) 44 (0, 0))) := hq0
          have hq1' : Hid (wr.drew.heap[w.heap.size + 1]? = some (.cells (S.cells.map wv).toArray 85 (0, 0))) := hq1
          have hqE' : Hid (wr.drew.heap[g3]? = some (.cells (E.map bv ++ List.replicate (128 - 64 * nb) (Value.int .u8 0)).toArray 87 (0, 0))) := hqE
          have hg' : w.grownBy wr.drew none := grown_drew hg
          have hd := load_st wr.drew (w.heap.size + 1) S _ _ hq1
          refine wp_region_still_tail 3 (by kernel_rfl) (by kernel_rfl) ?_
          change wpStill _ _ wr.drew (fun a' => wpList _ _ _ _ a' wr.drew) _ _
          generalize wr.drew = w4 at hq0' hq1' hqE' hg' hd ⊢
          simp only [List.take_succ_cons, List.take_zero, List.drop_succ_cons, List.drop_zero]
          have i1 : (64 : Int) ≤ (c2 : Int) := by omega
          have i2 : 64 ≤ c2 := by omega
          have hE64 : Hid (64 * j + 64 ≤ E.length) := by show _ ≤ _; rw [hEl.out]; omega
          refine wpStill_load rfl _ _ rfl rfl hd ?_
          repeat still_step
          refine wpStill_nil ?_
          go_wp2_with (first
            | (go_at_call 57; refine (hst _ (hk.kept hg') (rd_block hqE'.out j hE64.out)).mono ?_; rintro e w5 ⟨rfl, hg5⟩)
            | (refine wpList_store_row rfl 85 _ _ rfl (w.heap.size + 1) (T.cells.map wv).toArray rfl rfl 85 (S.cells.map wv).toArray ((hg5.block _ (Array.getElem?_eq_some_iff.1 hq1'.out).1 (by simp)).trans hq1'.out) size_st rfl (wv_all _) ?_; generalize hw6 : World.setRow _ _ _ = w6; have HW6 := Lib.hid hw6; clear hw6))
          have hne : Hid (g3 ≠ w.heap.size + 1) := by have := hsz0.out; show _ ≠ _; omega
          have hg6 : w.grownBy w6 none := by
            rw [← HW6.out]
            exact grown_setRow (grown_same hg' hg5) (.inr (by omega)) _
          have hq06 : Hid (w6.heap[w.heap.size]? = some (.cells (rowH []) 44 (0, 0))) := by
            show _ = _
            rw [← HW6.out, setRow_other _ _ _ _ (by omega), hg5.block _ (Array.getElem?_eq_some_iff.1 hq0'.out).1 (by simp)]
            exact hq0'.out
          have hqE6 : Hid (w6.heap[g3]? = some (.cells (E.map bv ++ List.replicate (128 - 64 * nb) (Value.int .u8 0)).toArray 87 (0, 0))) := by
            show _ = _
            rw [← HW6.out, setRow_other _ _ _ _ hne.out, hg5.block _ (Array.getElem?_eq_some_iff.1 hqE'.out).1 (by simp)]
            exact hqE'.out
          have hq16 : Hid (w6.heap[w.heap.size + 1]? = some (.cells ((stirs start F (k + (j + 1))).cells.map wv).toArray 85 (0, 0))) := by
            show _ = _
            rw [← HW6.out, ← HT.out]
            exact setRow_heap _ _ _ _ _ _ ((hg5.block _ (Array.getElem?_eq_some_iff.1 hq1'.out).1 (by simp)).trans hq1'.out)
          refine ⟨⟨j + 1, m - 1, _, c2 - 64, by omega, by rw [show 64 * m - 64 = 64 * (m - 1) by omega], by omega, by omega, fun h => ?_, hq06, hq16, hqE6, hg6⟩, by show 64 * m - 64 < 64 * m; omega⟩
          rw [if_neg (by omega)]
          rfl
        · have hm0 : m = 0 := by omega
          subst hm0
          have hj : j = nb := by omega
          subst hj
          obtain ⟨S, hS⟩ : ∃ S, S = stirs start F (k + j) := ⟨_, rfl⟩
          rw [← hS] at hq1
          have hsum' : Hid (sumL l = outB S) := by show _ = _; rw [hsum.out, hS, hKB.out]
          obtain ⟨X, hX⟩ : ∃ X, X = outB S := ⟨_, rfl⟩
          have hH := fun w' => hashOf_any S w'
          rw [← hX] at hH
          have hXl : Hid (X.length = 32) := by rw [hX]; exact outB_len S
          have HX := Lib.hid hX
          have HS : Hid ((Tryd.prog.info? 44).map (·.size) = some (X.map bv).toArray.size) := by rw [List.size_toArray, List.length_map, hXl.out]; exact size_hash
          clear hS hX
          go_wp2_with (first
            | (refine wpList_load_row rfl 85 _ rfl (w.heap.size + 1) rfl 85 (S.cells.map wv).toArray (0, 0) _ hq1.out Tryd.underlying85 rfl size_st ?_)
            | (go_at_call 60; refine (hH _).mono ?_; rintro e w5 ⟨rfl, hg5⟩)
            | (refine wpList_store_row rfl 44 _ _ rfl w.heap.size (X.map bv).toArray rfl rfl 44 (rowH []) ((hg5.block _ (Array.getElem?_eq_some_iff.1 hq0.out).1 (by simp)).trans hq0.out) HS.out (by rw [rowH_size _ (by simp), List.size_toArray, List.length_map, hXl.out]) (bv_all' _) ?_))
          refine bodyPost_ret (results_cell_row rfl _ _ w.heap.size 44 (X.map bv).toArray (0, 0) _ rfl (setRow_heap _ _ _ _ _ _ ((hg5.block _ (Array.getElem?_eq_some_iff.1 hq0.out).1 (by simp)).trans hq0.out)) Tryd.underlying44 rfl HS.out) rfl ?_
          exact ⟨by rw [hsum'.out, HX.out], grown_setRow (grown_same hg hg5) (.inr (Nat.le_refl _)) _⟩
end Go.Proofs.YtpeepiboocdnaaaDoor

namespace Go.Proofs.YtpeepiboocdnaaaDoor
open Go.RowKit

theorem sum_nil_at : ∀ j, j < 4 → (sumL [])[j]? = ([0xe3, 0xb0, 0xc4, 0x42] : List UInt8)[j]? := fun j h => by
  rw [← sum_nil, List.getElem?_take_of_lt h]
theorem sum_abc_at : ∀ j, j < 4 → (sumL [97, 98, 99])[j]? = ([0xba, 0x78, 0x16, 0xbf] : List UInt8)[j]? := fun j h => by
  rw [← sum_abc, List.getElem?_take_of_lt h]
theorem cell_bv {w : World} {g j : Nat} {X : List UInt8} {t : TypeId} {fr : Nat × Nat} (h : w.heap[g]? = some (.cells (X.map bv).toArray t fr)) {b : UInt8} (hb : X[j]? = some b) : w.cell? ⟨g, j, none⟩ = some (.int .u8 (b.toNat : Int)) := by
  rw [cell_of_row w _ _ _ _ _ h, List.getElem?_toArray, List.getElem?_map, hb]
  rfl

/-- Two rows made, the first one written. -/
theorem two_rows {w w' : World} {C1 C2 X : Array Value} {t : TypeId} (h : ((w.alloc (.cells C1 t)).alloc (.cells C2 t)).setRow w.heap.size X = w') :
    Hid (w'.heap[w.heap.size]? = some (.cells X t (0, 0)) ∧ w'.heap[w.heap.size + 1]? = some (.cells C2 t (0, 0)) ∧ w.grownBy w' none) := by
  show _ ∧ _
  subst h
  exact ⟨setRow_heap _ _ _ _ _ _ (heap_alloc_1 _ _ _), (setRow_other _ _ _ _ (by omega)).trans (heap_alloc_2 _ _ _), grown_setRow (grown_alloc (grown_alloc (grown_refl _ _) _) _) (.inr (Nat.le_refl _)) _⟩
theorem two_0 {w w' : World} {g : Nat} {X Y : Array Value} {t : TypeId} (h : w.heap[g]? = some (.cells X t (0, 0))) (hw : w.setRow (g + 1) Y = w') : Hid (w'.heap[g]? = some (.cells X t (0, 0))) := by
  subst hw
  exact (setRow_other _ _ _ _ (by omega)).trans h
theorem two_1 {w w' : World} {g : Nat} {C Y : Array Value} {t : TypeId} (h : w.heap[g + 1]? = some (.cells C t (0, 0))) (hw : w.setRow (g + 1) Y = w') : Hid (w'.heap[g + 1]? = some (.cells Y t (0, 0))) := by
  subst hw
  exact setRow_heap _ _ _ _ _ _ h
theorem ret_w2 {a b : Bool} (h : a = b) : Ending.returned (.bool a) = .returned (.bool b) := by rw [h]
theorem conv_const (w : World) (C : Array Value) (n c : Nat) : (convert 61 61 (.slice (some ⟨w.heap.size, 0, none⟩) n c)).run Tryd.prog (w.alloc (.cells C 5)) = .ok (.slice (some ⟨w.heap.size, 0, none⟩) n c) (w.alloc (.cells C 5 (C.size, C.size + 1))) :=
  Lib.run_convert_bytes_const w 61 5 C n c Tryd.underlying61 Tryd.underlying5
end Go.Proofs.YtpeepiboocdnaaaDoor
