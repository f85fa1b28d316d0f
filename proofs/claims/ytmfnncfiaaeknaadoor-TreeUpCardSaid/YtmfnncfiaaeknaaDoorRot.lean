/- Words turned: the contracts of bits.RotateLeft32, of package sha's and of the document's own turning. -/
import Derived.Test.YtmfnncfiaaeknaaDoorSha
import Derived.StillTailTactics
namespace Go.Proofs.YtmfnncfiaaeknaaDoor
open Go.RowKit

theorem w_lt (x : UInt32) : x.toNat < 4294967296 := x.toNat_lt
theorem ofInt_w (x : UInt32) : BitVec.ofInt 32 (x.toNat : Int) = x.toBitVec := by
  apply BitVec.eq_of_toNat_eq
  rw [BitVec.toNat_ofInt]
  have := w_lt x
  have e : x.toBitVec.toNat = x.toNat := rfl
  rw [e]
  omega
theorem ret_w {k : IntKind} {a b : Int} (h : a = b) : Ending.returned (.int k a) = .returned (.int k b) := by rw [h]
theorem wrap_w (x : UInt32) : IntKind.u32.wrap (x.toNat : Int) = (x.toNat : Int) := by
  have := w_lt x
  show (x.toNat : Int) % 4294967296 = _
  omega
theorem bits_or (x y : UInt32) : bits .or .u32 (x.toNat : Int) (y.toNat : Int) = ((oW x y).toNat : Int) := by
  simp only [bits, IntKind.bits, ofInt_w]
  exact wrap_w _
theorem bits_and (x y : UInt32) : bits .and .u32 (x.toNat : Int) (y.toNat : Int) = ((aW x y).toNat : Int) := by
  simp only [bits, IntKind.bits, ofInt_w]
  exact wrap_w _
theorem bits_xor (x y : UInt32) : bits .xor .u32 (x.toNat : Int) (y.toNat : Int) = ((xW x y).toNat : Int) := by
  simp only [bits, IntKind.bits, ofInt_w]
  exact wrap_w _
theorem shr_w (x : UInt32) (n : Nat) (h : n < 32) : (x.toNat : Int) / 2 ^ n = ((rW x n).toNat : Int) := by
  rw [rW, UInt32.toNat_shiftRight, UInt32.toNat_ofNat', Nat.shiftRight_eq_div_pow]
  have : n % 2 ^ 32 % 32 = n := by omega
  rw [this]
  norm_cast
theorem shl_w (x : UInt32) (n : Nat) (h : n < 32) : (x.toNat : Int) * 2 ^ n % 4294967296 = ((lW x n).toNat : Int) := by
  rw [lW, UInt32.toNat_shiftLeft, UInt32.toNat_ofNat', Nat.shiftLeft_eq]
  have : n % 2 ^ 32 % 32 = n := by omega
  rw [this, show (2 : Nat) ^ 32 = 4294967296 from rfl]
  simp only [Int.natCast_emod, Int.natCast_mul, Int.natCast_pow]
  rfl
theorem add_w (x y : UInt32) : ((x.toNat : Int) + (y.toNat : Int)) % 4294967296 = ((pW x y).toNat : Int) := by
  rw [pW, UInt32.toNat_add, show (2 : Nat) ^ 32 = 4294967296 from rfl]
  simp only [Int.natCast_emod, Int.natCast_add]
  rfl
theorem not_w (x : UInt32) : 4294967295 - (x.toNat : Int) = ((nW x).toNat : Int) := by
  have := w_lt x
  have h : (nW x).toNat = 4294967295 - x.toNat := by
    rw [nW, UInt32.toNat_not]
    rfl
  omega
theorem wrap_add (x y : UInt32) : IntKind.u32.wrap ((x.toNat : Int) + (y.toNat : Int)) = ((pW x y).toNat : Int) := add_w x y
theorem wrap_byte (p : UInt8) : IntKind.u32.wrap (p.toNat : Int) = ((bW p).toNat : Int) := by
  have h : (bW p).toNat = p.toNat := rfl
  have := p.toNat_lt
  rw [h]
  show (p.toNat : Int) % 4294967296 = _
  omega
theorem wrap_l24 (x : UInt32) : IntKind.u32.wrap ((x.toNat : Int) * 16777216) = ((lW x 24).toNat : Int) := shl_w x 24 (by omega)
theorem wrap_l16 (x : UInt32) : IntKind.u32.wrap ((x.toNat : Int) * 65536) = ((lW x 16).toNat : Int) := shl_w x 16 (by omega)
theorem wrap_l8 (x : UInt32) : IntKind.u32.wrap ((x.toNat : Int) * 256) = ((lW x 8).toNat : Int) := shl_w x 8 (by omega)
theorem div_r (x : UInt32) : (x.toNat : Int) / 8 = ((rW x 3).toNat : Int) ∧ (x.toNat : Int) / 1024 = ((rW x 10).toNat : Int) := ⟨shr_w x 3 (by omega), shr_w x 10 (by omega)⟩
theorem add_pos (ad : Addr) (n : Nat) (h : 0 < n) : ad.add n = ⟨ad.block, ad.off + n, none⟩ := by
  unfold Addr.add
  rw [if_neg (by omega)]
theorem bits_not (x : UInt32) : bits .xor .u32 (if IntKind.u32.signed = true then -1 else IntKind.u32.max) (x.toNat : Int) = ((nW x).toNat : Int) := by
  have e : BitVec.ofInt 32 (if IntKind.u32.signed = true then -1 else IntKind.u32.max) = BitVec.allOnes 32 := by decide
  simp only [bits, IntKind.bits, ofInt_w]
  rw [e]
  have h : (BitVec.allOnes 32 ^^^ x.toBitVec) = (nW x).toBitVec := by rw [BitVec.allOnes_xor]; rfl
  exact (congrArg (fun z : BitVec 32 => IntKind.u32.wrap (z.toNat : Int)) h).trans (wrap_w (nW x))
theorem neg_low (n : Nat) (h0 : 1 ≤ n) (h1 : n ≤ 31) : bits .and .u64 (IntKind.u64.wrap (-(n : Int))) 31 = ((32 - n : Nat) : Int) := by
  have h : ∀ m : Fin 32, 1 ≤ m.val → bits .and .u64 (IntKind.u64.wrap (-(m.val : Int))) 31 = ((32 - m.val : Nat) : Int) := by decide +kernel
  exact h ⟨n, by omega⟩ h0
theorem rot_val (x : UInt32) (n : Nat) (h0 : 1 ≤ n) (h1 : n ≤ 31) : bits .or .u32 ((x.toNat : Int) / 2 ^ n) ((x.toNat : Int) * 2 ^ (32 - n) % 4294967296) = ((rotr x n).toNat : Int) := by
  rw [shr_w x n (by omega), shl_w x (32 - n) (by omega), bits_or, rotr]
theorem or_com (x y : UInt32) : oW x y = oW y x := UInt32.or_comm x y
theorem rot_val' (x : UInt32) (n : Nat) (h0 : 1 ≤ n) (h1 : n ≤ 31) : bits .or .u32 ((x.toNat : Int) * 2 ^ (32 - n) % 4294967296) ((x.toNat : Int) / 2 ^ n) = ((rotr x n).toNat : Int) := by
  rw [shr_w x n (by omega), shl_w x (32 - n) (by omega), bits_or, rotr, or_com]

set_option maxHeartbeats 400000 in
theorem Rot_any (x : UInt32) (n : Nat) (w : World) (h0 : 1 ≤ n) (h1 : n ≤ 31) :
    Calls Tryd.prog 56 #[.int .u32 (x.toNat : Int), .int .i64 (-(n : Int))] w fun e w' => e = .returned (.int .u32 ((rotr x n).toNat : Int)) ∧ w' = w := by
  have hb := neg_low n h0 h1
  obtain ⟨m, hm⟩ : ∃ m, m = 32 - n := ⟨_, rfl⟩
  rw [← hm] at hb
  have hm1 : 1 ≤ m := by omega
  have hm2 : m ≤ 31 := by omega
  have HM := Lib.hid hm
  clear hm
  go_enter Tryd.func56, Tryd.ntmps56
  go_wp2
  go_ret
  refine ⟨ret_w ?_, rfl⟩
  have e1 : 32 - m = n := by have := HM.out; omega
  have e2 := HM.out
  rw [e1, e2]
  exact rot_val' x n h0 h1
set_option maxHeartbeats 400000 in
theorem turn_any (x : UInt32) (n : Nat) (w : World) (h0 : 1 ≤ n) (h1 : n ≤ 31) :
    Calls Tryd.prog 53 #[.int .u32 (x.toNat : Int), .int .u64 (n : Int)] w fun e w' => e = .returned (.int .u32 ((rotr x n).toNat : Int)) ∧ w' = w := by
  go_enter Tryd.func53, Tryd.ntmps53
  go_wp2
  go_ret
  exact ⟨ret_w (rot_val x n h0 h1), rfl⟩
set_option maxHeartbeats 400000 in
theorem turned_any (x : UInt32) (i j k : Nat) (w : World) (hi0 : 1 ≤ i) (hi : i ≤ 31) (hj0 : 1 ≤ j) (hj : j ≤ 31) (hk0 : 1 ≤ k) (hk : k ≤ 31) :
    Calls Tryd.prog 55 #[.int .u32 (x.toNat : Int), .int .i64 (i : Int), .int .i64 (j : Int), .int .i64 (k : Int)] w fun e w' => e = .returned (.int .u32 ((rot3 x i j k).toNat : Int)) ∧ w' = w := by
  have bx := bits_xor
  go_enter Tryd.func55, Tryd.ntmps55
  go_wp2_with (go_at_call 56; refine (Rot_any x _ _ (by assumption) (by assumption)).mono ?_; rintro e w' ⟨rfl, rfl⟩)
  go_ret
  exact ⟨rfl, rfl⟩
/-- .. by a written number. -/
theorem Rot_m (x : UInt32) (m : Int) (w : World) (h : -31 ≤ m ∧ m ≤ -1) :
    Calls Tryd.prog 56 #[.int .u32 (x.toNat : Int), .int .i64 m] w fun e w' => e = .returned (.int .u32 ((rotr x (-m).toNat).toNat : Int)) ∧ w' = w := by
  have e : m = -(((-m).toNat : Nat) : Int) := by omega
  have := Rot_any x (-m).toNat w (by omega) (by omega)
  rwa [← e] at this
theorem turn_m (x : UInt32) (m : Int) (w : World) (h : 1 ≤ m ∧ m ≤ 31) :
    Calls Tryd.prog 53 #[.int .u32 (x.toNat : Int), .int .u64 m] w fun e w' => e = .returned (.int .u32 ((rotr x m.toNat).toNat : Int)) ∧ w' = w := by
  have e : m = ((m.toNat : Nat) : Int) := by omega
  have := turn_any x m.toNat w (by omega) (by omega)
  rwa [← e] at this
theorem turned_m (x : UInt32) (i j k : Int) (w : World) (hi : 1 ≤ i ∧ i ≤ 31) (hj : 1 ≤ j ∧ j ≤ 31) (hk : 1 ≤ k ∧ k ≤ 31) :
    Calls Tryd.prog 55 #[.int .u32 (x.toNat : Int), .int .i64 i, .int .i64 j, .int .i64 k] w fun e w' => e = .returned (.int .u32 ((rot3 x i.toNat j.toNat k.toNat).toNat : Int)) ∧ w' = w := by
  have e1 : i = ((i.toNat : Nat) : Int) := by omega
  have e2 : j = ((j.toNat : Nat) : Int) := by omega
  have e3 : k = ((k.toNat : Nat) : Int) := by omega
  have := turned_any x i.toNat j.toNat k.toNat w (by omega) (by omega) (by omega) (by omega) (by omega) (by omega)
  rwa [← e1, ← e2, ← e3] at this
end Go.Proofs.YtmfnncfiaaeknaaDoor
