/- SHA-256 as a plain function of lists: words, rounds, blocks, padding. No memory, no project. Words turned: the contracts of bits.RotateLeft32, of package sha's and of the document's own turning. A block's words: the contract of package sha's spread. One more block: the contract of package sha's stir. The words' bytes, a length's bytes, how many blocks: the contracts of package sha's hashOf, putLength, Blocks. A length's eight bytes at the end of a row: the contract of package sha's putLength. SHA-256 of a row of bytes: the contract of package sha's Sum. Small facts on hashes' rows, a constant text as bytes. -/
import Derived.Test.YtjdfnohlgeoniaaKA
import Derived.StillTailTactics
import Derived.Lib.SlBytesConst
namespace Go.Proofs.Ytjdfnohlgeoniaa
open Go.RowKit

/-- A word as a value. -/
def wv (x : UInt32) : Value := .int .u32 (x.toNat : Int)
/-! The operations on words under names of their own: the walk then leaves them as they are. -/
def xW (x y : UInt32) : UInt32 := x ^^^ y
def aW (x y : UInt32) : UInt32 := x &&& y
def oW (x y : UInt32) : UInt32 := x ||| y
def pW (x y : UInt32) : UInt32 := x + y
def nW (x : UInt32) : UInt32 := ~~~x
def rW (x : UInt32) (n : Nat) : UInt32 := x >>> UInt32.ofNat n
def lW (x : UInt32) (n : Nat) : UInt32 := x <<< UInt32.ofNat n
def bW (b : UInt8) : UInt32 := b.toUInt32
def rotr (x : UInt32) (n : Nat) : UInt32 := oW (rW x n) (lW x (32 - n))
def rot3 (x : UInt32) (i j k : Nat) : UInt32 := xW (xW (rotr x i) (rotr x j)) (rotr x k)
def ssig0 (x : UInt32) : UInt32 := xW (xW (rotr x 7) (rotr x 18)) (rW x 3)
def ssig1 (x : UInt32) : UInt32 := xW (xW (rotr x 17) (rotr x 19)) (rW x 10)
def wordOf (p q r s : UInt8) : UInt32 := oW (oW (oW (lW (bW p) 24) (lW (bW q) 16)) (lW (bW r) 8)) (bW s)
def wordAt (b : List UInt8) (i : Nat) : UInt32 := wordOf (b.getD (4 * i) 0) (b.getD (4 * i + 1) 0) (b.getD (4 * i + 2) 0) (b.getD (4 * i + 3) 0)
/-- The first n words of a block. -/
def words16 (b : List UInt8) : Nat → List UInt32
  | 0 => []
  | n + 1 => words16 b n ++ [wordAt b n]
def nextW (w : List UInt32) : UInt32 := pW (pW (pW (w.getD (w.length - 16) 0) (ssig0 (w.getD (w.length - 15) 0))) (w.getD (w.length - 7) 0)) (ssig1 (w.getD (w.length - 2) 0))
/-- A block's words: n more than 16. -/
def sched (b : List UInt8) : Nat → List UInt32
  | 0 => words16 b 16
  | n + 1 => sched b n ++ [nextW (sched b n)]
structure St where
  (a b c d e f g h : UInt32)
deriving DecidableEq
def keysL : List UInt32 := [0x428a2f98, 0x71374491, 0xb5c0fbcf, 0xe9b5dba5, 0x3956c25b, 0x59f111f1, 0x923f82a4, 0xab1c5ed5,
  0xd807aa98, 0x12835b01, 0x243185be, 0x550c7dc3, 0x72be5d74, 0x80deb1fe, 0x9bdc06a7, 0xc19bf174,
  0xe49b69c1, 0xefbe4786, 0x0fc19dc6, 0x240ca1cc, 0x2de92c6f, 0x4a7484aa, 0x5cb0a9dc, 0x76f988da,
  0x983e5152, 0xa831c66d, 0xb00327c8, 0xbf597fc7, 0xc6e00bf3, 0xd5a79147, 0x06ca6351, 0x14292967,
  0x27b70a85, 0x2e1b2138, 0x4d2c6dfc, 0x53380d13, 0x650a7354, 0x766a0abb, 0x81c2c92e, 0x92722c85,
  0xa2bfe8a1, 0xa81a664b, 0xc24b8b70, 0xc76c51a3, 0xd192e819, 0xd6990624, 0xf40e3585, 0x106aa070,
  0x19a4c116, 0x1e376c08, 0x2748774c, 0x34b0bcb5, 0x391c0cb3, 0x4ed8aa4a, 0x5b9cca4f, 0x682e6ff3,
  0x748f82ee, 0x78a5636f, 0x84c87814, 0x8cc70208, 0x90befffa, 0xa4506ceb, 0xbef9a3f7, 0xc67178f2]
def start : St := ⟨0x6a09e667, 0xbb67ae85, 0x3c6ef372, 0xa54ff53a, 0x510e527f, 0x9b05688c, 0x1f83d9ab, 0x5be0cd19⟩
def tOf (k w : UInt32) (s : St) : UInt32 := pW (pW (pW (pW s.h (rot3 s.e 6 11 25)) (xW (aW s.e s.f) (aW (nW s.e) s.g))) k) w
def majOf (s : St) : UInt32 := xW (xW (aW s.a s.b) (aW s.a s.c)) (aW s.b s.c)
def uOf (s : St) : UInt32 := pW (rot3 s.a 2 13 22) (majOf s)
def round (k w : UInt32) (s : St) : St := ⟨pW (tOf k w s) (uOf s), s.a, s.b, s.c, pW s.d (tOf k w s), s.e, s.f, s.g⟩
/-- n rounds. -/
def rounds (w : List UInt32) (s : St) : Nat → St
  | 0 => s
  | n + 1 => round (keysL.getD n 0) (w.getD n 0) (rounds w s n)
def St.add (s t : St) : St := ⟨pW s.a t.a, pW s.b t.b, pW s.c t.c, pW s.d t.d, pW s.e t.e, pW s.f t.f, pW s.g t.g, pW s.h t.h⟩
def St.cells (s : St) : List UInt32 := [s.a, s.b, s.c, s.d, s.e, s.f, s.g, s.h]
/-- The state after one more block. -/
def stir (s : St) (b : List UInt8) : St := s.add (rounds (sched b 48) s 64)
/-- The state after n blocks of l. -/
def stirs (s : St) (l : List UInt8) : Nat → St
  | 0 => s
  | n + 1 => stir (stirs s l n) ((l.drop (64 * n)).take 64)
/-- A length's eight bytes, in bits, the highest first. -/
def lenB (n : Nat) : List UInt8 := (List.range 8).map fun i => UInt8.ofNat (8 * n / 2 ^ (8 * (7 - i)))
/-- What stands behind n bytes. -/
def padL (n : Nat) : List UInt8 := 0x80 :: (List.replicate (64 * ((n + 8) / 64 + 1) - n - 9) 0 ++ lenB n)
def bytesW (x : UInt32) : List UInt8 := [UInt8.ofNat (x.toNat / 2 ^ 24), UInt8.ofNat (x.toNat / 2 ^ 16), UInt8.ofNat (x.toNat / 2 ^ 8), UInt8.ofNat (x.toNat / 2 ^ 0)]
def outB (s : St) : List UInt8 := s.cells.flatMap bytesW
/-- SHA-256 of a list of bytes. -/
def sumL (l : List UInt8) : List UInt8 := outB (stirs start (l ++ padL l.length) ((l.length + 8) / 64 + 1))
def tagL (t : UInt8) (l : List UInt8) : List UInt8 := sumL (t :: l)

theorem outB_len (s : St) : (outB s).length = 32 := rfl
theorem sumL_len (l : List UInt8) : (sumL l).length = 32 := rfl
theorem sum_nil : (sumL []).take 4 = [0xe3, 0xb0, 0xc4, 0x42] := by decide +kernel
theorem sum_abc : (sumL [97, 98, 99]).take 4 = [0xba, 0x78, 0x16, 0xbf] := by decide +kernel
end Go.Proofs.Ytjdfnohlgeoniaa

namespace Go.Proofs.Ytjdfnohlgeoniaa
open Go.RowKit

theorem w_lt (x : UInt32) : x.toNat < 4294967296 := x.toNat_lt
theorem ofInt_w (x : UInt32) : BitVec.ofInt 32 (x.toNat : Int) = x.toBitVec := by
  apply BitVec.eq_of_toNat_eq
  rw [BitVec.toNat_ofInt]
  have := w_lt x
  have e : x.toBitVec.toNat = x.toNat := rfl
  rw [e]
  omega
theorem ret_w {k : IntKind} {a b : Int} (h : a = b) : Ending.returned (.int k a) = .returned (.int k b) := by rw [h]
theorem wrap_w (x : UInt32) : IntKind.u32.wrap (x.toNat : Int) = (x.toNat : Int) := by
  have := w_lt x
  show (x.toNat : Int) % 4294967296 = _
  omega
theorem bits_or (x y : UInt32) : bits .or .u32 (x.toNat : Int) (y.toNat : Int) = ((oW x y).toNat : Int) := by
  simp only [bits, IntKind.bits, ofInt_w]
  exact wrap_w _
theorem bits_and (x y : UInt32) : bits .and .u32 (x.toNat : Int) (y.toNat : Int) = ((aW x y).toNat : Int) := by
  simp only [bits, IntKind.bits, ofInt_w]
  exact wrap_w _
theorem bits_xor (x y : UInt32) : bits .xor .u32 (x.toNat : Int) (y.toNat : Int) = ((xW x y).toNat : Int) := by
  simp only [bits, IntKind.bits, ofInt_w]
  exact wrap_w _
theorem shr_w (x : UInt32) (n : Nat) (h : n < 32) : (x.toNat : Int) / 2 ^ n = ((rW x n).toNat : Int) := by
  rw [rW, UInt32.toNat_shiftRight, UInt32.toNat_ofNat', Nat.shiftRight_eq_div_pow]
  have : n % 2 ^ 32 % 32 = n := by omega
  rw [this]
  norm_cast
theorem shl_w (x : UInt32) (n : Nat) (h : n < 32) : (x.toNat : Int) * 2 ^ n % 4294967296 = ((lW x n).toNat : Int) := by
  rw [lW, UInt32.toNat_shiftLeft, UInt32.toNat_ofNat', Nat.shiftLeft_eq]
  have : n % 2 ^ 32 % 32 = n := by omega
  rw [this, show (2 : Nat) ^ 32 = 4294967296 from rfl]
  simp only [Int.natCast_emod, Int.natCast_mul, Int.natCast_pow]
  rfl
theorem add_w (x y : UInt32) : ((x.toNat : Int) + (y.toNat : Int)) % 4294967296 = ((pW x y).toNat : Int) := by
  rw [pW, UInt32.toNat_add, show (2 : Nat) ^ 32 = 4294967296 from rfl]
  simp only [Int.natCast_emod, Int.natCast_add]
  rfl
theorem not_w (x : UInt32) : 4294967295 - (x.toNat : Int) = ((nW x).toNat : Int) := by
  have := w_lt x
  have h : (nW x).toNat = 4294967295 - x.toNat := by
    rw [nW, UInt32.toNat_not]
    rfl
  omega
theorem wrap_add (x y : UInt32) : IntKind.u32.wrap ((x.toNat : Int) + (y.toNat : Int)) = ((pW x y).toNat : Int) := add_w x y
theorem wrap_byte (p : UInt8) : IntKind.u32.wrap (p.toNat : Int) = ((bW p).toNat : Int) := by
  have h : (bW p).toNat = p.toNat := rfl
  have := p.toNat_lt
  rw [h]
  show (p.toNat : Int) % 4294967296 = _
  omega
theorem wrap_l24 (x : UInt32) : IntKind.u32.wrap ((x.toNat : Int) * 16777216) = ((lW x 24).toNat : Int) := shl_w x 24 (by omega)
theorem wrap_l16 (x : UInt32) : IntKind.u32.wrap ((x.toNat : Int) * 65536) = ((lW x 16).toNat : Int) := shl_w x 16 (by omega)
theorem wrap_l8 (x : UInt32) : IntKind.u32.wrap ((x.toNat : Int) * 256) = ((lW x 8).toNat : Int) := shl_w x 8 (by omega)
theorem div_r (x : UInt32) : (x.toNat : Int) / 8 = ((rW x 3).toNat : Int) ∧ (x.toNat : Int) / 1024 = ((rW x 10).toNat : Int) := ⟨shr_w x 3 (by omega), shr_w x 10 (by omega)⟩
theorem add_pos (ad : Addr) (n : Nat) (h : 0 < n) : ad.add n = ⟨ad.block, ad.off + n, none⟩ := by
  unfold Addr.add
  rw [if_neg (by omega)]
theorem bits_not (x : UInt32) : bits .xor .u32 (if IntKind.u32.signed = true then -1 else IntKind.u32.max) (x.toNat : Int) = ((nW x).toNat : Int) := by
  have e : BitVec.ofInt 32 (if IntKind.u32.signed = true then -1 else IntKind.u32.max) = BitVec.allOnes 32 := by decide
  simp only [bits, IntKind.bits, ofInt_w]
  rw [e]
  have h : (BitVec.allOnes 32 ^^^ x.toBitVec) = (nW x).toBitVec := by rw [BitVec.allOnes_xor]; rfl
  exact (congrArg (fun z : BitVec 32 => IntKind.u32.wrap (z.toNat : Int)) h).trans (wrap_w (nW x))
theorem neg_low (n : Nat) (h0 : 1 ≤ n) (h1 : n ≤ 31) : bits .and .u64 (IntKind.u64.wrap (-(n : Int))) 31 = ((32 - n : Nat) : Int) := by
  have h : ∀ m : Fin 32, 1 ≤ m.val → bits .and .u64 (IntKind.u64.wrap (-(m.val : Int))) 31 = ((32 - m.val : Nat) : Int) := by decide +kernel
  exact h ⟨n, by omega⟩ h0
theorem rot_val (x : UInt32) (n : Nat) (h0 : 1 ≤ n) (h1 : n ≤ 31) : bits .or .u32 ((x.toNat : Int) / 2 ^ n) ((x.toNat : Int) * 2 ^ (32 - n) % 4294967296) = ((rotr x n).toNat : Int) := by
  rw [shr_w x n (by omega), shl_w x (32 - n) (by omega), bits_or, rotr]
theorem or_com (x y : UInt32) : oW x y = oW y x := UInt32.or_comm x y
theorem rot_val' (x : UInt32) (n : Nat) (h0 : 1 ≤ n) (h1 : n ≤ 31) : bits .or .u32 ((x.toNat : Int) * 2 ^ (32 - n) % 4294967296) ((x.toNat : Int) / 2 ^ n) = ((rotr x n).toNat : Int) := by
  rw [shr_w x n (by omega), shl_w x (32 - n) (by omega), bits_or, rotr, or_com]

end Go.Proofs.Ytjdfnohlgeoniaa

namespace Go.Proofs.Ytjdfnohlgeoniaa
open Go.RowKit

theorem words16_len (b : List UInt8) (n : Nat) : (words16 b n).length = n := by
  induction n with
  | zero => rfl
  | succ n ih => simp [words16, ih]
theorem sched_len (b : List UInt8) (n : Nat) : (sched b n).length = 16 + n := by
  induction n with
  | zero => exact words16_len b 16
  | succ n ih => simp [sched, ih]; omega
/-- A row of 64 words of which so many are there. -/
def rowW (l : List UInt32) : Array Value := (l.map wv ++ List.replicate (64 - l.length) (Value.int .u32 0)).toArray
theorem rowW_next (l : List UInt32) (x : UInt32) (h : l.length < 64) : (rowW l).setIfInBounds l.length (wv x) = rowW (l ++ [x]) := by
  unfold rowW
  obtain ⟨k, hk⟩ : ∃ k, 64 - l.length = k + 1 := ⟨64 - l.length - 1, by omega⟩
  have hk' : 64 - (l ++ [x]).length = k := by simp; omega
  rw [hk, hk']
  apply Array.ext'
  simp [List.replicate_succ]
theorem rowW_get (l : List UInt32) (j : Nat) (h : j < l.length) : (rowW l)[j]? = some (wv (l.getD j 0)) := by
  unfold rowW
  rw [List.getElem?_toArray, List.getElem?_append_left (by simpa using h)]
  simp [h]
theorem rowW_zero (l : List UInt32) (j : Nat) (h : l.length ≤ j) (h' : j < 64) : (rowW l)[j]? = some (.int .u32 0) := by
  unfold rowW
  rw [List.getElem?_toArray, List.getElem?_append_right (by simpa using h), List.getElem?_replicate]
  simp; omega

theorem getD_at {α : Type} (b : List α) (i : Nat) (d : α) (h : i < b.length) : b.getD i d = b[i] := by
  rw [List.getD_eq_getElem?_getD, List.getElem?_eq_getElem h]; rfl
theorem wordAt_of {b : List UInt8} {k : Nat} {p0 p1 p2 p3 : UInt8} (h : 4 * k + 3 < b.length) (h0 : p0 = b[4 * k]'(by omega)) (h1 : p1 = b[4 * k + 1]'(by omega)) (h2 : p2 = b[4 * k + 2]'(by omega)) (h3 : p3 = b[4 * k + 3]'(by omega)) :
    wordAt b k = wordOf p0 p1 p2 p3 := by
  unfold wordAt
  rw [getD_at b _ _ (show 4 * k < b.length by omega), getD_at b _ _ (show 4 * k + 1 < b.length by omega), getD_at b _ _ (show 4 * k + 2 < b.length by omega), getD_at b _ _ h, h0, h1, h2, h3]
/-- A word stored where the row ends. -/
theorem rowW_store {w : World} {g n : Nat} {l : List UInt32} {x : UInt32} {t : TypeId} (h : w.heap[g]? = some (.cells (rowW l) t (0, 0))) (hn : l.length = n) (hl : n < 64) :
    (w.setCell ⟨g, n, none⟩ (.int .u32 (x.toNat : Int))).heap[g]? = some (.cells (rowW (l ++ [x])) t (0, 0)) := by
  subst hn
  exact heap_setCell_to h (rowW_next l x hl)

theorem heap_alloc_2 (w : World) (o1 o2 : Obj) : ((w.alloc o1).alloc o2).heap[w.heap.size + 1]? = some o2 := by
  have := heap_alloc_new (w.alloc o1) o2
  rwa [show (w.alloc o1).heap.size = w.heap.size + 1 from by simp] at this
theorem heap_alloc_1 (w : World) (o1 o2 : Obj) : ((w.alloc o1).alloc o2).heap[w.heap.size]? = some o1 :=
  (Below.heap_alloc (w.alloc o1) o2 w.heap.size (by simp)).trans (heap_alloc_new w o1)
theorem rowW_full {l : List UInt32} (h : l.length = 64) : rowW l = (l.map wv).toArray := by simp [rowW, h]
theorem rowW_size (l : List UInt32) (h : l.length ≤ 64) : (rowW l).size = 64 := by simp [rowW]; omega
theorem wv_all (l : List UInt32) : (l.map wv).toArray.all (·.oneCell') = true := by
  rw [Array.all_eq_true_iff_forall_mem]
  intro v hv
  simp only [List.mem_toArray, List.mem_map] at hv
  obtain ⟨x, _, rfl⟩ := hv
  rfl

end Go.Proofs.Ytjdfnohlgeoniaa

namespace Go.Proofs.Ytjdfnohlgeoniaa
open Go.RowKit

theorem add_zero_pos (g k : Nat) : (⟨g, 0, none⟩ : Addr).add k = ⟨g, k, none⟩ := by
  unfold Addr.add; split <;> simp_all
/-- A state as a value. -/
def stV (s : St) : Value := .agg #[.int .u32 (s.a.toNat : Int), .int .u32 (s.b.toNat : Int), .int .u32 (s.c.toNat : Int), .int .u32 (s.d.toNat : Int), .int .u32 (s.e.toNat : Int), .int .u32 (s.f.toNat : Int), .int .u32 (s.g.toNat : Int), .int .u32 (s.h.toNat : Int)]

end Go.Proofs.Ytjdfnohlgeoniaa

namespace Go.Proofs.Ytjdfnohlgeoniaa
open Go.RowKit

theorem outB_get (s : St) : ∀ k, k < 32 → (outB s).getD k 0 = UInt8.ofNat ((s.cells.getD (k / 4) 0).toNat / 2 ^ (24 - 8 * (k % 4)))
  | 0, _ => rfl
  | 1, _ => rfl
  | 2, _ => rfl
  | 3, _ => rfl
  | 4, _ => rfl
  | 5, _ => rfl
  | 6, _ => rfl
  | 7, _ => rfl
  | 8, _ => rfl
  | 9, _ => rfl
  | 10, _ => rfl
  | 11, _ => rfl
  | 12, _ => rfl
  | 13, _ => rfl
  | 14, _ => rfl
  | 15, _ => rfl
  | 16, _ => rfl
  | 17, _ => rfl
  | 18, _ => rfl
  | 19, _ => rfl
  | 20, _ => rfl
  | 21, _ => rfl
  | 22, _ => rfl
  | 23, _ => rfl
  | 24, _ => rfl
  | 25, _ => rfl
  | 26, _ => rfl
  | 27, _ => rfl
  | 28, _ => rfl
  | 29, _ => rfl
  | 30, _ => rfl
  | 31, _ => rfl
  | k + 32, h => absurd h (by omega)
/-- A row of 32 bytes of which so many are there. -/
def rowH (l : List UInt8) : Array Value := (l.map bv ++ List.replicate (32 - l.length) (Value.int .u8 0)).toArray
theorem rowH_next (l : List UInt8) (x : UInt8) (h : l.length < 32) : (rowH l).setIfInBounds l.length (bv x) = rowH (l ++ [x]) := by
  unfold rowH
  obtain ⟨k, hk⟩ : ∃ k, 32 - l.length = k + 1 := ⟨32 - l.length - 1, by omega⟩
  have hk' : 32 - (l ++ [x]).length = k := by simp; omega
  rw [hk, hk']
  apply Array.ext'
  simp [List.replicate_succ]
theorem rowH_zero (l : List UInt8) (j : Nat) (h : l.length ≤ j) (h' : j < 32) : (rowH l)[j]? = some (.int .u8 0) := by
  unfold rowH
  rw [List.getElem?_toArray, List.getElem?_append_right (by simpa using h), List.getElem?_replicate]
  simp; omega
theorem rowH_store {w : World} {g n : Nat} {l : List UInt8} {x : UInt8} {t : TypeId} (h : w.heap[g]? = some (.cells (rowH l) t (0, 0))) (hn : l.length = n) (hl : n < 32) :
    (w.setCell ⟨g, n, none⟩ (.int .u8 (x.toNat : Int))).heap[g]? = some (.cells (rowH (l ++ [x])) t (0, 0)) := by
  subst hn
  exact heap_setCell_to h (rowH_next l x hl)
theorem rowH_full {l : List UInt8} (h : l.length = 32) : rowH l = (l.map bv).toArray := by simp [rowH, h]
theorem rowH_size (l : List UInt8) (h : l.length ≤ 32) : (rowH l).size = 32 := by simp [rowH]; omega
theorem bv_all' (l : List UInt8) : (l.map bv).toArray.all (·.oneCell') = true := by
  rw [Array.all_eq_true_iff_forall_mem]
  intro v hv
  simp only [List.mem_toArray, List.mem_map] at hv
  obtain ⟨x, _, rfl⟩ := hv
  rfl
theorem heap_alloc_3 (w : World) (o1 o2 o3 : Obj) : (((w.alloc o1).alloc o2).alloc o3).heap[w.heap.size]? = some o1 ∧ (((w.alloc o1).alloc o2).alloc o3).heap[w.heap.size + 1]? = some o2 ∧ (((w.alloc o1).alloc o2).alloc o3).heap[w.heap.size + 2]? = some o3 := by
  refine ⟨(Below.heap_alloc _ o3 w.heap.size (by simp; omega)).trans (heap_alloc_1 w o1 o2), (Below.heap_alloc _ o3 (w.heap.size + 1) (by simp)).trans (heap_alloc_2 w o1 o2), ?_⟩
  have := heap_alloc_new ((w.alloc o1).alloc o2) o3
  rwa [show ((w.alloc o1).alloc o2).heap.size = w.heap.size + 2 from by simp] at this
theorem St.cells_get (s : St) : ∀ j, j < 8 → #[Value.int .u32 (s.a.toNat : Int), .int .u32 (s.b.toNat : Int), .int .u32 (s.c.toNat : Int), .int .u32 (s.d.toNat : Int), .int .u32 (s.e.toNat : Int), .int .u32 (s.f.toNat : Int), .int .u32 (s.g.toNat : Int), .int .u32 (s.h.toNat : Int)][j]? = some (.int .u32 ((s.cells.getD j 0).toNat : Int))
  | 0, _ => rfl
  | 1, _ => rfl
  | 2, _ => rfl
  | 3, _ => rfl
  | 4, _ => rfl
  | 5, _ => rfl
  | 6, _ => rfl
  | 7, _ => rfl
  | j + 8, h => absurd h (by omega)

/-- How many blocks. -/
def blocksN (n : Nat) : Nat := (n + 8) / 64 + 1
end Go.Proofs.Ytjdfnohlgeoniaa

namespace Go.Proofs.Ytjdfnohlgeoniaa
open Go.RowKit

theorem set_mid {α : Type} (A B : List α) (m v : α) (n : Nat) (h : A.length = n) : (A ++ m :: B).set n v = A ++ v :: B := by
  subst h; simp
theorem put_back (pre mid t post : List Value) (v : Value) (k : Nat) (h : k < mid.length) :
    ((pre ++ (mid.take (k + 1) ++ t) ++ post).toArray).setIfInBounds (pre.length + k) v = (pre ++ (mid.take k ++ v :: t) ++ post).toArray := by
  apply Array.ext'
  rw [Array.toList_setIfInBounds]
  have e : pre ++ (mid.take (k + 1) ++ t) ++ post = (pre ++ mid.take k) ++ mid[k] :: (t ++ post) := by
    rw [List.take_succ_eq_append_getElem h]; simp only [List.append_assoc, List.cons_append, List.nil_append]
  simp only [e]
  rw [set_mid _ _ _ _ _ (by rw [List.length_append, List.length_take]; omega)]
  simp
theorem get_back (pre mid t post : List Value) (k : Nat) (h : k < mid.length) : (pre ++ (mid.take (k + 1) ++ t) ++ post).toArray[pre.length + k]? = some mid[k] := by
  have e : pre ++ (mid.take (k + 1) ++ t) ++ post = (pre ++ mid.take k) ++ mid[k] :: (t ++ post) := by
    rw [List.take_succ_eq_append_getElem h]; simp only [List.append_assoc, List.cons_append, List.nil_append]
  rw [e, List.getElem?_toArray, List.getElem?_append_right (by rw [List.length_append, List.length_take]; omega)]
  have : pre.length + k - (pre ++ mid.take k).length = 0 := by rw [List.length_append, List.length_take]; omega
  rw [this]; rfl
theorem lenB_len (n : Nat) : (lenB n).length = 8 := by simp [lenB]
theorem lenB_drop (n k : Nat) (h : k < 8) : ((lenB n).map bv).drop k = bv (UInt8.ofNat (8 * n / 2 ^ (8 * (7 - k)))) :: ((lenB n).map bv).drop (k + 1) := by
  rw [List.drop_eq_getElem_cons (by simp [lenB_len]; exact h)]
  simp [lenB]
theorem len_val (n i : Nat) : ((n : Int) * 8) / 2 ^ (8 * i) % 256 = ((UInt8.ofNat (8 * n / 2 ^ (8 * i))).toNat : Int) := by
  rw [UInt8.toNat_ofNat', Nat.mul_comm 8 n]
  simp only [Int.natCast_emod, Int.natCast_ediv, Int.natCast_pow, Int.natCast_mul]
  rfl

end Go.Proofs.Ytjdfnohlgeoniaa

namespace Go.Proofs.Ytjdfnohlgeoniaa
open Go.RowKit

theorem padL_len (n : Nat) : (padL n).length = 64 * blocksN n - n := by
  simp [padL, lenB_len, blocksN]; omega
theorem stirs_last (s : St) (l : List UInt8) (n : Nat) : stirs s l (n + 1) = stir (stirs s l n) ((l.drop (64 * n)).take 64) := rfl
/-- The block of a text that lies before its end. -/
theorem block_in (l p : List UInt8) (k : Nat) (h : 64 * k + 64 ≤ l.length) : ((l ++ p).drop (64 * k)).take 64 = (l.drop (64 * k)).take 64 := by
  rw [List.drop_append_of_le_length (by omega), List.take_append_of_le_length (by rw [List.length_drop]; omega)]
theorem block_end (l p : List UInt8) (k : Nat) (h : 64 * k ≤ l.length) : (l ++ p).drop (64 * k) = l.drop (64 * k) ++ p := List.drop_append_of_le_length h

theorem stirs_app (s : St) (l p : List UInt8) : ∀ k, 64 * k ≤ l.length → stirs s (l ++ p) k = stirs s l k
  | 0, _ => rfl
  | k + 1, h => by rw [stirs_last, stirs_last, stirs_app s l p k (by omega), block_in l p k (by omega)]
theorem rd_block {w : World} {g : Nat} {E : List UInt8} {post : List Value} {t : TypeId} {fr : Nat × Nat} (h : w.heap[g]? = some (.cells (E.map bv ++ post).toArray t fr)) (j : Nat) (hj : 64 * j + 64 ≤ E.length) :
    RdB w (some ⟨g, 64 * j, none⟩) ((E.drop (64 * j)).take 64) := by
  have h1 := ((rd_row h).drop (64 * j)).take 64
  rw [Option.map_some, add_zero_pos, List.drop_append_of_le_length (by rw [List.length_map]; omega), List.take_append_of_le_length (by rw [List.length_drop, List.length_map]; omega), ← List.map_drop, ← List.map_take] at h1
  exact h1
theorem zeros_u8 (n : Nat) : (List.replicate n (0 : UInt8)).map bv = List.replicate n (Value.int .u8 0) := by simp [bv]
/-- What stands in the room: the rest, its end, and what is left of the room. -/
theorem room_end (r : List UInt8) (N : Nat) (hN : N % 64 = r.length) :
    r.map bv ++ bv 0x80 :: (List.replicate (64 * blocksN r.length - 9 - r.length) (Value.int .u8 0)) ++ (lenB N).map bv ++ List.replicate (128 - 64 * blocksN r.length) (Value.int .u8 0)
      = (r ++ padL N).map bv ++ List.replicate (128 - 64 * blocksN r.length) (Value.int .u8 0) := by
  have e : 64 * ((N + 8) / 64 + 1) - N - 9 = 64 * blocksN r.length - 9 - r.length := by unfold blocksN; omega
  rw [padL, e]
  simp only [List.map_append, List.map_cons, zeros_u8, List.append_assoc, List.cons_append]
theorem room_parts (r : List UInt8) (hr : r.length < 64) :
    r.map bv ++ bv 0x80 :: List.replicate (127 - r.length) (Value.int .u8 0)
      = (r.map bv ++ bv 0x80 :: (List.replicate (64 * blocksN r.length - 9 - r.length) (Value.int .u8 0))) ++ List.replicate 8 (Value.int .u8 0) ++ List.replicate (128 - 64 * blocksN r.length) (Value.int .u8 0) := by
  have e : 127 - r.length = (64 * blocksN r.length - 9 - r.length) + (8 + (128 - 64 * blocksN r.length)) := by unfold blocksN; omega
  rw [e, ← List.replicate_append_replicate, ← List.replicate_append_replicate]
  simp only [List.append_assoc, List.cons_append]
theorem room_copied (r : List UInt8) : splice (List.replicate 128 (Value.int .u8 0)) 0 (r.map bv) = r.map bv ++ List.replicate (128 - r.length) (Value.int .u8 0) := by
  unfold splice
  rw [List.take_zero, List.nil_append, List.length_map, Nat.zero_add, List.drop_replicate]
theorem room_cell {w : World} {g n : Nat} {r : List UInt8} {t : TypeId} (hq : w.heap[g]? = some (.cells (splice (List.replicate 128 (Value.int .u8 0)) 0 (r.map bv)).toArray t (0, 0))) (hn : r.length = n) (h : n < 64) :
    w.cell? ⟨g, n, none⟩ = some (.int .u8 0) ∧ w.frozen? ⟨g, n, none⟩ = false := by
  refine ⟨?_, frozen_of_row w _ _ _ _ hq⟩
  rw [cell_of_row w _ _ _ _ _ hq, room_copied, List.getElem?_toArray, List.getElem?_append_right (by rw [List.length_map]; omega), List.getElem?_replicate]
  rw [if_pos (by rw [List.length_map]; omega)]
theorem room_marked {w : World} {g n nb : Nat} {r : List UInt8} {t : TypeId} (hq : w.heap[g]? = some (.cells (splice (List.replicate 128 (Value.int .u8 0)) 0 (r.map bv)).toArray t (0, 0))) (hn : r.length = n) (h : n < 64) (hnb : nb = blocksN n) :
    (w.setCell ⟨g, n, none⟩ (.int .u8 128)).heap[g]? = some (.cells ((r.map bv ++ bv 0x80 :: List.replicate (64 * nb - 9 - n) (Value.int .u8 0)) ++ List.replicate 8 (Value.int .u8 0) ++ List.replicate (128 - 64 * nb) (Value.int .u8 0)).toArray t (0, 0)) := by
  subst hn hnb
  refine heap_setCell_to hq ?_
  rw [room_copied, ← room_parts r h, show 128 - r.length = (127 - r.length) + 1 by omega, List.replicate_succ]
  apply Array.ext'
  rw [Array.toList_setIfInBounds]
  exact set_mid _ _ _ _ _ (by rw [List.length_map])
theorem size_u8 : (Try.prog.info? 5).map (·.size) = some 1 := by kernel_rfl

def lenOf : Value → Nat
  | .slice _ n _ => n
  | _ => 0
theorem wpStill_load {P : Program} {ops : Array Oper} {w : World} {Q : Act → Prop} {a : Act} {o : Oper} {rest : List Oper} (hgd : o.guard = none) (ty : TypeId) (x : Operand) (ho : o.op = .load ty x) {ad : Addr} {v : Value}
    (hx : a.eval x = .pointer (some ad)) (hr : (loadVar ty ad).run P w = .ok v w) (h : wpStill P ops w Q rest (a.put o.dst v)) : wpStill P ops w Q (o :: rest) a := by
  unfold wpStill
  have hw : Region.wanted o (yielded ops a.tmps) = true := by simp [Region.wanted, hgd]
  rw [if_pos hw]
  unfold Oper.still execOp
  simp only [ho, hx, Instr.loadAt, Instr.sureAddr, Sem.run_bind, Sem.run_pure, Result.andThen_ok, hr]
  exact ⟨rfl, h⟩
end Go.Proofs.Ytjdfnohlgeoniaa

namespace Go.Proofs.Ytjdfnohlgeoniaa
open Go.RowKit

theorem sum_nil_at : ∀ j, j < 4 → (sumL [])[j]? = ([0xe3, 0xb0, 0xc4, 0x42] : List UInt8)[j]? := fun j h => by
  rw [← sum_nil, List.getElem?_take_of_lt h]
theorem sum_abc_at : ∀ j, j < 4 → (sumL [97, 98, 99])[j]? = ([0xba, 0x78, 0x16, 0xbf] : List UInt8)[j]? := fun j h => by
  rw [← sum_abc, List.getElem?_take_of_lt h]
theorem cell_bv {w : World} {g j : Nat} {X : List UInt8} {t : TypeId} {fr : Nat × Nat} (h : w.heap[g]? = some (.cells (X.map bv).toArray t fr)) {b : UInt8} (hb : X[j]? = some b) : w.cell? ⟨g, j, none⟩ = some (.int .u8 (b.toNat : Int)) := by
  rw [cell_of_row w _ _ _ _ _ h, List.getElem?_toArray, List.getElem?_map, hb]
  rfl

/-- Two rows made, the first one written. -/
theorem two_rows {w w' : World} {C1 C2 X : Array Value} {t : TypeId} (h : ((w.alloc (.cells C1 t)).alloc (.cells C2 t)).setRow w.heap.size X = w') :
    Hid (w'.heap[w.heap.size]? = some (.cells X t (0, 0)) ∧ w'.heap[w.heap.size + 1]? = some (.cells C2 t (0, 0)) ∧ w.grownBy w' none) := by
  show _ ∧ _
  subst h
  exact ⟨setRow_heap _ _ _ _ _ _ (heap_alloc_1 _ _ _), (setRow_other _ _ _ _ (by omega)).trans (heap_alloc_2 _ _ _), grown_setRow (grown_alloc (grown_alloc (grown_refl _ _) _) _) (.inr (Nat.le_refl _)) _⟩
theorem two_0 {w w' : World} {g : Nat} {X Y : Array Value} {t : TypeId} (h : w.heap[g]? = some (.cells X t (0, 0))) (hw : w.setRow (g + 1) Y = w') : Hid (w'.heap[g]? = some (.cells X t (0, 0))) := by
  subst hw
  exact (setRow_other _ _ _ _ (by omega)).trans h
theorem two_1 {w w' : World} {g : Nat} {C Y : Array Value} {t : TypeId} (h : w.heap[g + 1]? = some (.cells C t (0, 0))) (hw : w.setRow (g + 1) Y = w') : Hid (w'.heap[g + 1]? = some (.cells Y t (0, 0))) := by
  subst hw
  exact setRow_heap _ _ _ _ _ _ h
theorem ret_w2 {a b : Bool} (h : a = b) : Ending.returned (.bool a) = .returned (.bool b) := by rw [h]
end Go.Proofs.Ytjdfnohlgeoniaa
